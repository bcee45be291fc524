import Derived.Test.YthbhgelncdnmgaaGreatDoorY19
import Derived.Deep.RegionHeld
set_option linter.unusedVariables false
set_option linter.unusedSimpArgs false
set_option maxRecDepth 20000
set_option maxHeartbeats 4000000
namespace Go.Proofs.YthbhgelncdnmgaaGreatDoor
open Go.Proofs.Tryz
open Lib (hid)
open Nat (le_refl le_trans zero_le lt_of_lt_of_le lt_or_ge lt_of_le_of_lt)
open Go.RowKit
theorem sz_qv{neg:Bool}{a d L:Nat}(hd:d≠0)(hg:Nat.gcd a d=1)(ha:(limbs a).length<=L)(hdl:(limbs d).length<=L):Sz (qv neg a d) L:=by
 unfold Sz;rw [(Qc5 hd hg).1,(Qc5 hd hg).2,Qe6];exact⟨ha,hdl⟩
structure Fld (w:World) (v:Value) (neg:Bool) (ln ld:List Nat):Prop where
 out:∃A n c A' m c',v=.agg #[.bool neg,.slice A n c,.slice A' m c']/\Num w ln A n c/\Num w ld A' m c'
theorem Fld.below{w w':World}{v:Value}{neg:Bool}{ln ld:List Nat}(h:Fld w v neg ln ld)(hb:Below w.heap.size w w'):Fld w' v neg ln ld:=by
 obtain⟨A,n,c,A',m,c',e,h1,h2⟩:=h.out;exact⟨A,n,c,A',m,c',e,h1.below hb,h2.below hb⟩
theorem Fld.agg{w:World}{v:Value}{neg:Bool}{ln ld:List Nat}(h:Fld w v neg ln ld):∃A n c A' m c',v=.agg #[.bool neg,.slice A n c,.slice A' m c']:=by
 obtain⟨A,n,c,A',m,c',e,_⟩:=h.out;exact⟨A,n,c,A',m,c',e⟩
theorem mk_le(n:Int){d:Nat}(hd:d≠0):(mkRat n d).num.natAbs<=n.natAbs/\(mkRat n d).den<=d:=by
 rw [Rat.num_mkRat,Rat.den_mkRat,if_neg hd,if_neg hd];refine⟨?_,Nat.div_le_self _ _⟩;exact Int.natAbs_ediv_le_natAbs _ _
theorem Qye{a b p q:Nat}(h1:(limbs a).length<=p)(h2:(limbs b).length<=q):(limbs (a+b)).length<=max p q+1:=le_trans (Qb3 a b) (by omega)
theorem Qf0{a b p q:Nat}(h1:(limbs a).length<=p)(h2:(limbs b).length<=q):(limbs (a*b)).length<=p+q:=le_trans (Qa0 a b) (by omega)
theorem sz_le{n:Int}{d L:Nat}(hd:d≠0)(h1:(limbs n.natAbs).length<=L)(h2:(limbs d).length<=L):Sz (mkRat n d) L:=
 ⟨le_trans (Qad (mk_le n hd).1) h1,le_trans (Qad (mk_le n hd).2) h2⟩
theorem Qxf{x y:Rat}{p q L:Nat}(hx:Sz x p)(hy:Sz y q)(hL:p+q<=L):Sz (x*y) L:=by
 rw [Rat.mul_def'];refine sz_le (Nat.mul_ne_zero x.den_nz y.den_nz) ?_ ?_
 ·rw [Int.natAbs_mul];exact le_trans (Qf0 hx.1 hy.1) hL
 ·exact le_trans (Qf0 hx.2 hy.2) hL
theorem Qxg{x y:Rat}{p q L:Nat}(hx:Sz x p)(hy:Sz y q)(hL:p+q+1<=L):Sz (x+y) L:=by
 rw [Rat.add_def'];refine sz_le (Nat.mul_ne_zero x.den_nz y.den_nz) ?_ ?_
 ·refine le_trans (Qad (Int.natAbs_add_le _ _)) ?_
  rw [Int.natAbs_mul,Int.natAbs_mul,Int.natAbs_natCast,Int.natAbs_natCast];exact le_trans (Qye (Qf0 hx.1 hy.2) (Qf0 hy.1 hx.2)) (by omega)
 ·exact le_trans (Qf0 hx.2 hy.2) (by omega)
theorem Qsp{x:Rat}{p:Nat}(hx:Sz x p):Sz (-x) p:=by
 unfold Sz;rw [Rat.neg_num,Rat.neg_den,Int.natAbs_neg];exact hx
theorem sz_sub{x y:Rat}{p q L:Nat}(hx:Sz x p)(hy:Sz y q)(hL:p+q+1<=L):Sz (x-y) L:=by
 rw [Rat.sub_eq_add_neg];exact Qxg hx (Qsp hy) hL
theorem Qcw(L:Nat)(h:1<=L):Sz 0 L:=⟨by show(limbs 0).length<=L;rw [Qaf];simp,by show(limbs 1).length<=L;rw [Qay];exact h⟩
theorem RatQ.inr{w:World}{v:Value}{q:Rat}{L:Nat}(h:RatQ w v q)(hs:Sz q L)(hL:L<=1000000):Inr w v q:=by
 obtain⟨A,n,c,A',m,c',e,h1,h2⟩:=h;refine⟨_,A,n,c,A',m,c',_,_,e,h1,h2,?_,?_,?_⟩
 ·rw [h1.len];have:=hs.1;omega
 ·rw [h2.len];have:=Qbd q.den;have:=hs.2;omega
 ·exact Qg5 q
end Go.Proofs.YthbhgelncdnmgaaGreatDoor
namespace Go.Proofs.YthbhgelncdnmgaaGreatDoor
open Go.Proofs.Tryz
open Lib (hid)
open Nat (le_refl le_trans zero_le lt_of_lt_of_le lt_or_ge lt_of_le_of_lt)
structure SV where
 q:Rat
 c:Int
 i:Bool
 s:Nat
 p:List Mon
def svZ:SV:=⟨0,0,false,0,[]⟩
def svQ(x:Rat):SV:=⟨x,0,false,0,[]⟩
def svC(c:Int)(i:Bool):SV:=⟨0,c,i,0,[]⟩
def svS(s:Nat):SV:=⟨0,0,false,s,[]⟩
def svP(p:List Mon):SV:=⟨0,0,false,0,p⟩
abbrev allBits:Nat:=18446744073709551615
abbrev topCost:Int:=1099511627776
def okK(k:Nat)(a:SV):Prop:=
 match k with
 |1=>a=svQ a.q
 |2=>a=svC a.c a.i/\0<=a.c/\a.c<=topCost/\(a.i=true->a.c=0)
 |3=>a=svQ a.q/\0<=a.q/\a.q<=1
 |4=>a=svS a.s/\a.s<=allBits
 |_=>a=svP a.p/\VP a.p
def zeroK(k:Nat):SV:=if k=2 then svC 0 true else svZ
noncomputable def oneK(k:Nat):SV:=
 match k with
 |1=>svQ 1
 |2=>svZ
 |3=>svQ 1
 |4=>svS allBits
 |_=>svP (listOf (constC 1))
def cheapB(a b:SV):Bool:=!a.i && (b.i||decide (a.c<b.c))
noncomputable def plusK(k:Nat)(a b:SV):SV:=
 match k with
 |1=>svQ (a.q+b.q)
 |2=>if cheapB b a=true then svC b.c b.i else svC a.c a.i
 |3=>if a.q<b.q then svQ b.q else svQ a.q
 |4=>svS (a.s|||b.s)
 |_=>svP (listOf (addC (co a.p) (co b.p)))
noncomputable def timesK(k:Nat)(a b:SV):SV:=
 match k with
 |2=>if a.i=true\/b.i=true\/topCost<a.c+b.c then svC 0 true else svC (a.c+b.c) false
 |4=>svS (a.s &&& b.s)
 |5=>svP (listOf (mulC (co a.p) (co b.p)))
 |_=>svQ (a.q*b.q)
theorem kinds5{P:Nat->Prop}(h1:P 1)(h2:P 2)(h3:P 3)(h4:P 4)(h5:P 5):∀k,1<=k->k<=5->P k:=fun k a b=>by
 obtain rfl|rfl|rfl|rfl|rfl:k=1\/k=2\/k=3\/k=4\/k=5:=by omega
 ·exact h1
 ·exact h2
 ·exact h3
 ·exact h4
 ·exact h5
theorem Qcx:∀k,1<=k->k<=5->okK k (zeroK k):=kinds5 rfl ⟨rfl,by decide,by decide,fun _=>rfl⟩ ⟨rfl,by decide,by decide⟩ ⟨rfl,by decide⟩ ⟨rfl,⟨fun _ h=>(by cases h),List.Pairwise.nil⟩⟩
theorem Qsq:∀k,1<=k->k<=5->okK k (oneK k):=kinds5 rfl ⟨rfl,by decide,by decide,fun _=>rfl⟩ ⟨rfl,by decide,by decide⟩ ⟨rfl,by decide⟩ ⟨rfl,Qfz _⟩
theorem Qi8:∀k,1<=k->k<=5->∀a b,okK k a->okK k b->plusK k a b=plusK k b a:=kinds5
 (fun a b _ _=>by show svQ (a.q+b.q)=svQ (b.q+a.q);rw [Rat.add_comm])
 (fun a b ha hb=>by
  show(if cheapB b a=true then svC b.c b.i else svC a.c a.i)=if cheapB a b=true then svC a.c a.i else svC b.c b.i;have h1:=ha.2.2.2;have h2:=hb.2.2.2;unfold cheapB;cases hi:a.i<;>cases hj:b.i<;>simp [hi,hj]at h1 h2⊢
  ·by_cases h:b.c<a.c
   ·rw [if_pos h,if_neg (by omega)]
   ·rw [if_neg h]
    by_cases h':a.c<b.c
    ·rw [if_pos h']
    ·rw [if_neg h',show a.c=b.c by omega]
  ·rw [h1,h2])
 (fun a b ha hb=>by
  show(if a.q<b.q then svQ b.q else svQ a.q)=if b.q<a.q then svQ a.q else svQ b.q;by_cases h:a.q<b.q
  ·rw [if_pos h,if_neg (Rat.not_lt.2 (Rat.le_of_lt h))]
  ·rw [if_neg h]
   by_cases h':b.q<a.q
   ·rw [if_pos h']
   ·rw [if_neg h',Rat.le_antisymm (Rat.not_lt.1 h') (Rat.not_lt.1 h)])
 (fun a b _ _=>by show svS (a.s|||b.s)=svS (b.s|||a.s);rw [Nat.or_comm])
 (fun a b _ _=>by show svP (listOf (addC _ _))=svP (listOf (addC _ _));rw [Qsb])
theorem Qi9:∀k,1<=k->k<=5->∀a,okK k a->plusK k a (zeroK k)=a:=kinds5
 (fun a ha=>by rw [ha];show svQ (a.q+0)=svQ a.q;rw [Rat.add_zero])
 (fun a ha=>by
  have h1:=ha.2;rw [ha.1];show(if cheapB (svC 0 true) (svC a.c a.i)=true then svC 0 true else svC a.c a.i)=svC a.c a.i;rfl)
 (fun a ha=>by
  rw [ha.1];show(if a.q<0 then svQ 0 else svQ a.q)=svQ a.q;rw [if_neg (Rat.not_lt.2 ha.2.1)])
 (fun a ha=>by rw [ha.1];show svS (a.s|||0)=svS a.s;rw [Nat.or_zero])
 (fun a ha=>by
  rw [ha.1];show svP (listOf (addC (co a.p) (co [])))=svP a.p;have:addC (co a.p) (co [])=co a.p:=by funext e;show co a.p e+0=co a.p e;exact Rat.add_zero _
  rw [this,Qd8 ha.2])
theorem Qhy:∀k,1<=k->k<=5->∀a,okK k a->timesK k a (zeroK k)=zeroK k:=kinds5
 (fun a ha=>by show svQ (a.q*0)=svQ 0;rw [Rat.mul_zero])
 (fun a ha=>by
  show(if a.i=true\/true=true\/topCost<a.c+0 then svC 0 true else svC (a.c+0) false)=svC 0 true;rw [if_pos (.inr (.inl rfl))])
 (fun a ha=>by show svQ (a.q*0)=svQ 0;rw [Rat.mul_zero])
 (fun a ha=>by show svS (a.s &&& 0)=svS 0;rw [Nat.and_zero])
 (fun a ha=>by
  show svP (listOf (mulC (co a.p) (co [])))=svP [];have h0:co []=zeroC:=rfl;have h1:listOf zeroC=[]:=by unfold listOf zeroC;simp
  rw [h0,Qsc,Qsd,h1])
inductive Rg where
 |one (k:Nat)
 |prod (ks:List Nat)
abbrev CW:=SV × List SV
def kind5(k:Nat):Prop:=1<=k/\k<=5
def okRg:Rg->Prop
 | .one k=>kind5 k
 | .prod ks=>2<=ks.length/\ks.length<=3/\∀k∈ks,kind5 k
def okL:List Nat->List SV->Prop
 |[],[]=>True
 |k::ks,a::us=>okK k a/\okL ks us
 |_,_=>False
def okW:Rg->CW->Prop
 | .one k,x=>okK k x.1/\x.2=[]
 | .prod ks,x=>x.1=svZ/\okL ks x.2
def zipK(f:Nat->SV->SV->SV):List Nat->List SV->List SV->List SV
 |k::ks,a::us,b::bs=>f k a b::zipK f ks us bs
 |_,_,_=>[]
def zeroR:Rg->CW
 | .one k=>(zeroK k,[])
 | .prod ks=>(svZ,ks.map zeroK)
noncomputable def oneR:Rg->CW
 | .one k=>(oneK k,[])
 | .prod ks=>(svZ,ks.map oneK)
noncomputable def plusR:Rg->CW->CW->CW
 | .one k,x,y=>(plusK k x.1 y.1,[])
 | .prod ks,x,y=>(svZ,zipK plusK ks x.2 y.2)
noncomputable def timesR:Rg->CW->CW->CW
 | .one k,x,y=>(timesK k x.1 y.1,[])
 | .prod ks,x,y=>(svZ,zipK timesK ks x.2 y.2)
theorem Qsr:∀ {ks:List Nat} {us:List SV},okL ks us->us.length=ks.length
 |[],[],_=>rfl
 |k::ks,a::us,h=>by rw [List.length_cons,List.length_cons,Qsr h.2]
 |[],_::_,h=>h.elim
 |_::_,[],h=>h.elim
theorem Qno(f:Nat->SV)(hf:∀k,1<=k->k<=5->okK k (f k)):∀ks:List Nat,(∀k∈ks,kind5 k)->okL ks (ks.map f)
 |[],_=>trivial
 |k::ks,h=>⟨hf k (h k (by simp)).1 (h k (by simp)).2,Qno f hf ks (fun j hj=>h j (by simp [hj]))⟩
theorem Qoy{f g:Nat->SV->SV->SV}(hf:∀k,1<=k->k<=5->∀a b,okK k a->okK k b->f k a b=g k b a):∀(ks:List Nat) (us bs:List SV),(∀k∈ks,kind5 k)->okL ks us->okL ks bs->zipK f ks us bs=zipK g ks bs us
 |[],[],[],_,_,_=>rfl
 |k::ks,a::us,b::bs,h,ha,hb=>by
  show f k a b::zipK f ks us bs=g k b a::zipK g ks bs us;rw [hf k (h k (by simp)).1 (h k (by simp)).2 a b ha.1 hb.1,Qoy hf ks us bs (fun j hj=>h j (by simp [hj])) ha.2 hb.2]
 |[],_::_,_,_,h,_=>h.elim
 |_::_,[],_,_,h,_=>h.elim
 |[],[],_::_,_,_,h=>h.elim
 |_::_,_::_,[],_,_,h=>h.elim
theorem Qfa{f:Nat->SV->SV->SV}{g h:Nat->SV->SV}(z:Nat->SV)(hz:∀k,1<=k->k<=5->∀a,okK k a->f k a (z k)=g k a):∀(ks:List Nat) (us:List SV),(∀k∈ks,kind5 k)->okL ks us->zipK f ks us (ks.map z)=zipK (fun k a _=>g k a) ks us us
 |[],[],_,_=>rfl
 |k::ks,a::us,hk,ha=>by
  show f k a (z k)::zipK f ks us (ks.map z)=g k a::zipK _ ks us us;rw [hz k (hk k (by simp)).1 (hk k (by simp)).2 a ha.1,Qfa (h:=h) z hz ks us (fun j hj=>hk j (by simp [hj])) ha.2]
 |[],_::_,_,h=>h.elim
 |_::_,[],_,h=>h.elim
theorem Qss:∀(ks:List Nat) (us:List SV),okL ks us->zipK (fun _ a _=>a) ks us us=us
 |[],[],_=>rfl
 |k::ks,a::us,h=>by
  show a::zipK (fun _ a _=>a) ks us us=a::us;rw [Qss ks us h.2]
 |[],_::_,h=>h.elim
 |_::_,[],h=>h.elim
theorem Qlm(z:Nat->SV):∀(ks:List Nat) (us:List SV),okL ks us->zipK (fun k _ _=>z k) ks us us=ks.map z
 |[],[],_=>rfl
 |k::ks,a::us,h=>by
  show z k::zipK (fun k _ _=>z k) ks us us=z k::ks.map z;rw [Qlm z ks us h.2]
 |[],_::_,h=>h.elim
 |_::_,[],h=>h.elim
theorem Qca:∀ {r:Rg},okRg r->okW r (zeroR r)
 | .one k,h=>⟨Qcx k h.1 h.2,rfl⟩
 | .prod ks,h=>⟨rfl,Qno _ Qcx ks h.2.2⟩
theorem Qst:∀ {r:Rg},okRg r->okW r (oneR r)
 | .one k,h=>⟨Qsq k h.1 h.2,rfl⟩
 | .prod ks,h=>⟨rfl,Qno _ Qsq ks h.2.2⟩
theorem Qja:∀ {r:Rg},okRg r->∀ {x y:CW},okW r x->okW r y->plusR r x y=plusR r y x
 | .one k,h,_,_,hx,hy=>congrArg (fun z=>(z,([]:List SV))) (Qi8 k h.1 h.2 _ _ hx.1 hy.1)
 | .prod ks,h,_,_,hx,hy=>congrArg (fun z=>(svZ,z)) (Qoy Qi8 ks _ _ h.2.2 hx.2 hy.2)
theorem Qjb:∀ {r:Rg},okRg r->∀ {x:CW},okW r x->plusR r x (zeroR r)=x
 | .one k,h,x,hx=>by
   show(plusK k x.1 (zeroK k),([]:List SV))=x;rw [Qi9 k h.1 h.2 _ hx.1,<-hx.2]
 | .prod ks,h,x,hx=>by
   show(svZ,zipK plusK ks x.2 (ks.map zeroK))=x;rw [Qfa (h:=fun _ a=>a) zeroK Qi9 ks _ h.2.2 hx.2,Qss ks _ hx.2,<-hx.1]
theorem Qnp:∀ {r:Rg},okRg r->∀ {x:CW},okW r x->timesR r x (zeroR r)=zeroR r
 | .one k,h,x,hx=>by
   show(timesK k x.1 (zeroK k),([]:List SV))=(zeroK k,[]);rw [Qhy k h.1 h.2 _ hx.1]
 | .prod ks,h,x,hx=>by
   show(svZ,zipK timesK ks x.2 (ks.map zeroK))=(svZ,ks.map zeroK);rw [Qfa (h:=fun _ a=>a) (g:=fun k _=>zeroK k) zeroK Qhy ks _ h.2.2 hx.2,Qlm zeroK ks _ hx.2]
end Go.Proofs.YthbhgelncdnmgaaGreatDoor
namespace Go.Proofs.YthbhgelncdnmgaaGreatDoor
open Go.Proofs.Tryz
open Lib (hid)
open Nat (le_refl le_trans zero_le lt_of_lt_of_le lt_or_ge lt_of_le_of_lt)
open Go.RowKit
abbrev FldM:=(Int × Int × Int) × Bool × List Nat × List Nat
structure PRaw (w:World) (A:Option Addr) (n c:Nat) (l:List FldM):Prop where
 out:∃xs,RdK w 6 xs A n c/\xs.length=l.length/\∀(i:Nat) (m:FldM),l[i]? =some m->∃z0 z1 z2,xs[i]? =some (mcells m.1 z0 z1 z2)/\Fld w (.agg #[z0,z1,z2]) m.2.1 m.2.2.1 m.2.2.2
theorem PRaw.len{w:World}{A:Option Addr}{n c:Nat}{l:List FldM}(h:PRaw w A n c l):n=l.length:=by
 obtain⟨xs,h1,h2,_⟩:=h.out;rw [h1.len,h2]
theorem PRaw.below{w w':World}{A:Option Addr}{n c:Nat}{l:List FldM}(h:PRaw w A n c l)(hb:Below w.heap.size w w'):PRaw w' A n c l:=by
 obtain⟨xs,h1,h2,h3⟩:=h.out;refine⟨xs,h1.below hb,h2,fun i m hm=>?_⟩;obtain⟨z0,z1,z2,a,b⟩:=h3 i m hm;exact⟨z0,z1,z2,a,b.below hb⟩
theorem PRaw.at6{w:World}{A:Option Addr}{n c:Nat}{l:List FldM}(h:PRaw w A n c l){i:Nat}{m:FldM}(hi:l[i]? =some m):
 ∃b o A' c' B' e',A=some ⟨b,o,none⟩/\b<w.heap.size/\At6 w b (o+i*6) (.int .i64 m.1.1) (.int .i64 m.1.2.1) (.int .i64 m.1.2.2) (.bool m.2.1) (.slice A' m.2.2.1.length c') (.slice B' m.2.2.2.length e'):=by
 obtain⟨xs,h1,h2,h3⟩:=h.out;obtain⟨z0,z1,z2,a,b⟩:=h3 i m hi;obtain⟨A',n',c',B',m',e',e,hA,hB⟩:=b.out;injection e with e;simp only [Array.mk.injEq,List.cons.injEq,and_true]at e;obtain⟨rfl,rfl,rfl⟩:=e;obtain⟨b0,o0,rfl,hlt,hc⟩:=h1.at6 a;have k1:=hA.len;have k2:=hB.len;subst k1 k2;exact⟨b0,o0,A',c',B',e',rfl,hlt,hc⟩
def lgt2(m:FldM):Bool:=decide (m.2.2.1.length<=2) && decide (m.2.2.2.length<=2)
def lightL(l:List FldM):Bool:=decide (l.length<=8) && l.all lgt2
def ratL(l:List FldM):List RawM:=l.map (fun m=>(m.1,fq m.2.1 m.2.2.1 m.2.2.2))
theorem Qp7{l:List FldM}(h:lightL l=true):l.length<=8:=by
 unfold lightL at h;rw [Bool.and_eq_true]at h;exact of_decide_eq_true h.1
theorem Qp8{l:List FldM}(h:lightL l=true){m:FldM}(hm:m∈l):m.2.2.1.length<=2/\m.2.2.2.length<=2:=by
 unfold lightL at h;rw [Bool.and_eq_true,List.all_eq_true]at h;have:=h.2 m hm;unfold lgt2 at this;rw [Bool.and_eq_true]at this;exact⟨of_decide_eq_true this.1,of_decide_eq_true this.2⟩
noncomputable def polL(l:List FldM):List Mon:=cleanL (ratL l)
theorem Qsu(l:List FldM):VP (polL l):=Qlj _
theorem Qsv:∃i,prog.info? 3=some i:=by
 have h:(prog.info? 3).isSome=true:=by kernel_rfl
 exact Option.isSome_iff_exists.1 h
theorem Qsw:prog.cellsOf 3=1:=by kernel_rfl
theorem Qoz(x0 x1 x2:Int)(w:World):(part 3 #[.int .i64 x0,.int .i64 x1,.int .i64 x2] 0).run prog w=.ok (.int .i64 x0) w/\(part 3 #[.int .i64 x0,.int .i64 x1,.int .i64 x2] 1).run prog w=.ok (.int .i64 x1) w/\(part 3 #[.int .i64 x0,.int .i64 x1,.int .i64 x2] 2).run prog w=.ok (.int .i64 x2) w:=
 ⟨by kernel_rfl,by kernel_rfl,by kernel_rfl⟩
theorem Qj8(x0 x1 x2 y0 y1 y2:Int)(w:World):(Op.equalIn 10000 69 (.agg #[.int .i64 x0,.int .i64 x1,.int .i64 x2]) (.agg #[.int .i64 y0,.int .i64 y1,.int .i64 y2])).run prog w=.ok (x0==y0 && (x1==y1 && x2==y2)) w:=by
 obtain⟨i,hi⟩:=Qsv;have h:=run_equalIn_array (P:=prog) w 9999 #[.int .i64 x0,.int .i64 x1,.int .i64 x2] #[.int .i64 y0,.int .i64 y1,.int .i64 y2] underlying69 hi;rw [Qsw,show List.range 3=[0,1,2]from rfl]at h;rw [show(10000:Nat)=9999+1 from rfl,h];have e:∀(a b:Int) (w:World),(Op.equalIn 9999 3 (.int .i64 a) (.int .i64 b)).run prog w=.ok (a==b) w:=fun a b w=>run_equalIn_int w 9998 _ _ _ a b underlying3
 obtain⟨p0,p1,p2⟩:=Qoz x0 x1 x2 w;obtain⟨q0,q1,q2⟩:=Qoz y0 y1 y2 w;simp only [Op.eqItems,Sem.run_bind,Nat.zero_mul,Nat.one_mul,p0,q0,e,Result.andThen_ok];by_cases h0:(x0==y0)=true
 ·simp only [h0,Bool.not_true,Bool.false_eq_true,if_false,Sem.run_bind,p1,q1,e,Result.andThen_ok,Bool.true_and]
  by_cases h1:(x1==y1)=true
  ·simp only [h1,Bool.not_true,Bool.false_eq_true,if_false,Sem.run_bind,show 2*1=2 from rfl,p2,q2,e,Result.andThen_ok,Bool.true_and]
   by_cases h2:(x2==y2)=true
   ·simp [h2]
   ·simp [h2]
  ·simp [h1]
 ·simp [h0]
theorem Qsx{w:World}{neg:Bool}{ln ld:List Nat}{A A':Option Addr}{n c m c' L:Nat}(h1:Num w ln A n c)(h2:Num w ld A' m c')(hl:ln.length<=L)(hl':ld.length<=L)(hL:1<=L):Sz (fq neg ln ld) L:=by
 by_cases hv:vld neg ln ld=true
 ·obtain⟨e1,e2,e3,e4,e5⟩:=Qfw h1.lim h2.lim hv
  have hf:fq neg ln ld=qv neg (val ln) (dv ld):=by unfold fq;rw [if_pos hv]
  rw [hf];refine sz_qv e3 e4 (by rw [<-e1];exact hl) ?_;by_cases h1:dv ld=1
  ·rw [h1,Qay];exact hL
  ·rw [<-Qj1 h1,<-e2];exact hl'
 ·have hf:fq neg ln ld=0:=by unfold fq;rw [if_neg hv]
  rw [hf];exact Qcw L hL
theorem Qcn{w:World}{v:Value}{neg:Bool}{ln ld:List Nat}{L:Nat}(h:Fld w v neg ln ld)(hl:ln.length<=L)(hl':ld.length<=L)(h1:1<=L)(h2:L<=1000000):Inp w v (fq neg ln ld) L/\Inr w v (fq neg ln ld)/\Sz (fq neg ln ld) L:=by
 obtain⟨A,n,c,A',m,c',rfl,e1,e2⟩:=h.out;have hs:=Qsx (neg:=neg) e1 e2 hl hl' h1;have k1:=e1.len;have k2:=e2.len;exact⟨⟨neg,A,n,c,A',m,c',ln,ld,rfl,e1,e2,by omega,by omega,rfl,hs⟩,⟨neg,A,n,c,A',m,c',ln,ld,rfl,e1,e2,by omega,by omega,rfl⟩,hs⟩
theorem PRaw.pinG{w:World}{A:Option Addr}{n c L:Nat}{l:List FldM}(h:PRaw w A n c l)(hn:l.length<=1000000)(hl:∀m∈l,m.2.2.1.length<=L/\m.2.2.2.length<=L)(h1:1<=L)(h2:L<=1000000):PIn w (.slice A n c) (ratL l) L:=by
 obtain⟨xs,e1,e2,e3⟩:=h.out;refine⟨⟨A,n,c,xs,rfl,e1,by rw [e2];unfold ratL;rw [List.length_map],fun i e q hi=>?_⟩,by unfold ratL;rw [List.length_map];exact hn⟩;unfold ratL at hi;rw [List.getElem?_map]at hi;obtain⟨m,hm,he⟩:=Option.map_eq_some_iff.1 hi;obtain⟨z0,z1,z2,a,b⟩:=e3 i m hm;have hm2:=hl m (List.mem_of_getElem? hm);simp only [Prod.mk.injEq]at he;obtain⟨rfl,rfl⟩:=he;exact⟨z0,z1,z2,a,(Qcn b hm2.1 hm2.2 h1 h2).1⟩
inductive WD where
 |mk (neg:Bool) (ln ld:List Nat) (c:Int) (i:Bool) (s:Int) (poly:List FldM) (parts:List WD)
def WD.neg:WD->Bool| .mk a _ _ _ _ _ _ _=>a
def WD.ln:WD->List Nat| .mk _ a _ _ _ _ _ _=>a
def WD.ld:WD->List Nat| .mk _ _ a _ _ _ _ _=>a
def WD.c:WD->Int| .mk _ _ _ a _ _ _ _=>a
def WD.i:WD->Bool| .mk _ _ _ _ a _ _ _=>a
def WD.s:WD->Int| .mk _ _ _ _ _ a _ _=>a
def WD.poly:WD->List FldM| .mk _ _ _ _ _ _ a _=>a
def WD.parts:WD->List WD| .mk _ _ _ _ _ _ _ a=>a
def WD.q(d:WD):Rat:=fq d.neg d.ln d.ld
def WD.noQ(d:WD):Prop:=d.neg=false/\d.ln=[]/\d.ld=[]
def WD.noC(d:WD):Prop:=d.c=0/\d.i=false
def WD.onlyQ(d:WD):Prop:=d.noC/\d.s=0/\d.poly=[]/\d.parts=[]
def WD.onlyP(d:WD):Prop:=d.noQ/\d.noC/\d.s=0/\d.parts=[]
def WD.onlyS(d:WD):Prop:=d.noQ/\d.noC/\d.poly=[]/\d.parts=[]
def WD.onlyC(d:WD):Prop:=d.noQ/\d.s=0/\d.poly=[]/\d.parts=[]
def WD.onlyL(d:WD):Prop:=d.noQ/\d.noC/\d.s=0/\d.poly=[]
def chk(k:Nat)(d:WD):Prop:=
 match k with
 |1=>d.onlyQ/\vld d.neg d.ln d.ld=true
 |2=>d.onlyC/\0<=d.c/\d.c<=topCost/\(d.i=true->d.c=0)
 |3=>d.onlyQ/\vld d.neg d.ln d.ld=true/\d.neg=false/\d.q<=1
 |4=>d.onlyS
 |_=>d.onlyP/\vraw (ratL d.poly)
noncomputable def valK(k:Nat)(d:WD):SV:=
 match k with
 |1=>svQ d.q
 |2=>svC d.c d.i
 |3=>svQ d.q
 |4=>svS d.s.toNat
 |_=>svP (polL d.poly)
noncomputable def takeK(k:Nat)(d:WD):SV:=by
 classical
 exact if chk k d then valK k d else zeroK k
theorem Qbj{k:Nat}{d:WD}(h:chk k d):takeK k d=valK k d:=by unfold takeK;exact if_pos h
theorem Qcb{k:Nat}{d:WD}(h:¬chk k d):takeK k d=zeroK k:=by unfold takeK;exact if_neg h
def chkL:List Nat->List WD->Prop
 |[],[]=>True
 |k::ks,d::ds=>chk k d/\chkL ks ds
 |_,_=>False
def chkR:Rg->WD->Prop
 | .one k,d=>chk k d
 | .prod ks,d=>d.onlyL/\chkL ks d.parts
noncomputable def takeL:List Nat->List WD->List SV
 |k::ks,d::ds=>takeK k d::takeL ks ds
 |_,_=>[]
noncomputable def valR:Rg->WD->CW
 | .one k,d=>(valK k d,[])
 | .prod ks,d=>(svZ,takeL ks d.parts)
noncomputable def takeR(r:Rg)(d:WD):CW:=by
 classical
 exact if chkR r d then valR r d else zeroR r
theorem Qda{r:Rg}{d:WD}(h:chkR r d):takeR r d=valR r d:=by unfold takeR;exact if_pos h
theorem Qd9{r:Rg}{d:WD}(h:¬chkR r d):takeR r d=zeroR r:=by unfold takeR;exact if_neg h
theorem Qhz(k:Nat)(d:WD):takeR (.one k) d=(takeK k d,[]):=by
 by_cases h:chk k d
 ·rw [Qda (r:=.one k) h,Qbj h];rfl
 ·rw [Qd9 (r:=.one k) h,Qcb h];rfl
theorem Qbv:∀ {ks:List Nat} {ds:List WD},chkL ks ds->ds.length=ks.length
 |[],[],_=>rfl
 |k::ks,d::ds,h=>by rw [List.length_cons,List.length_cons,Qbv h.2]
 |[],_::_,h=>h.elim
 |_::_,[],h=>h.elim
inductive bits:WD->Prop where
 |mk {neg ln ld c i s poly parts} (h:0<=s/\s<=18446744073709551615) (hp:∀d∈parts,bits d):bits (.mk neg ln ld c i s poly parts)
theorem bits.s{d:WD}(h:bits d):0<=d.s/\d.s<=18446744073709551615:=by
 cases h with
 |mk h _=>exact h
theorem bits.parts{d:WD}(h:bits d):∀x∈d.parts,bits x:=by
 cases h with
 |mk _ h=>exact h
theorem Qln{ln ld:List Nat}(h:vld false ln ld=true):0<=fq false ln ld:=by
 unfold fq;rw [if_pos h];unfold qv;exact Rat.num_nonneg.1 (by
  rw [Rat.num_mkRat];split
  ·exact Int.le_refl _
  ·exact Int.ediv_nonneg (by unfold sgn;simp) (by omega))
theorem Qsy{d:WD}(hb:bits d):∀k,1<=k->k<=5->okK k (takeK k d):=fun k h1 h5=>by
 by_cases h:chk k d
 ·rw [Qbj h]
  revert h;refine kinds5 (P:=fun k=>chk k d->okK k (valK k d)) (fun _=>rfl) (fun h=>⟨rfl,h.2⟩) (fun h=>⟨rfl,?_,h.2.2.2⟩) (fun _=>⟨rfl,?_⟩) (fun _=>⟨rfl,Qsu _⟩) k h1 h5
  ·have h2:=h.2.1
   show 0<=fq d.neg d.ln d.ld;rw [h.2.2.1]at h2⊢;exact Qln h2
  ·have:=hb.s
   show d.s.toNat<=18446744073709551615;omega
 ·rw [Qcb h]
  exact Qcx k h1 h5
theorem Qo0:∀ {ks:List Nat} {ds:List WD},(∀k∈ks,kind5 k)->(∀d∈ds,bits d)->ds.length=ks.length->okL ks (takeL ks ds)
 |[],[],_,_,_=>trivial
 |k::ks,d::ds,hk,hd,hl=>⟨Qsy (hd d (by simp)) k (hk k (by simp)).1 (hk k (by simp)).2,Qo0 (fun j hj=>hk j (by simp [hj])) (fun e he=>hd e (by simp [he])) (by simpa using hl)⟩
 |[],_::_,_,_,h=>by simp at h
 |_::_,[],_,_,h=>by simp at h
theorem Qvk{r:Rg}(hr:okRg r){d:WD}(hb:bits d):okW r (takeR r d):=by
 by_cases h:chkR r d
 ·rw [Qda h]
  cases r with
  |one k=>
   have:=Qsy hb k hr.1 hr.2;rw [Qbj h]at this;exact⟨this,rfl⟩
  |prod ks=>exact⟨rfl,Qo0 hr.2.2 hb.parts (Qbv h.2)⟩
 ·rw [Qd9 h]
  exact Qca hr
abbrev wcells(q0 q1 q2:Value)(c:Int)(i:Bool)(s:Int)(Ap:Option Addr)(np cp:Nat)(Aw:Option Addr)(nw cw:Nat):List Value:=[q0,q1,q2,.int .i64 c,.bool i,.int .u64 s,.slice Ap np cp,.slice Aw nw cw]
inductive WRd (w:World):List Value->WD->Prop where
 |mk {q0 q1 q2:Value} {neg:Bool} {ln ld:List Nat} {c:Int} {i:Bool} {s:Int} {Ap:Option Addr} {np cp:Nat} {poly:List FldM} {Aw:Option Addr} {nw cw:Nat} {xs:List (List Value)} {parts:List WD}
  (hq:Fld w (.agg #[q0,q1,q2]) neg ln ld) (hp:PRaw w Ap np cp poly) (hr:RdK w 8 xs Aw nw cw) (hl:xs.length=parts.length) (f:Nat->List Value)
  (hx:∀(j:Nat) (d:WD),parts[j]? =some d->xs[j]? =some (f j)) (hw:∀(j:Nat) (d:WD),parts[j]? =some d->WRd w (f j) d):
  WRd w (wcells q0 q1 q2 c i s Ap np cp Aw nw cw) (.mk neg ln ld c i s poly parts)
theorem WRd.keep{w w':World}{l:List Value}{d:WD}(h:WRd w l d)(hb:Below w.heap.size w w'):WRd w' l d:=by
 induction h with
 |mk hq hp hr hl f hx hw ih=>exact .mk (hq.below hb) (hp.below hb) (hr.below hb) hl f hx ih
def WPs(w:World)(Aw:Option Addr)(nw cw:Nat)(parts:List WD):Prop:=∃xs,RdK w 8 xs Aw nw cw/\xs.length=parts.length/\∃f:Nat->List Value,(∀(j:Nat) (d:WD),parts[j]? =some d->xs[j]? =some (f j))/\∀(j:Nat) (d:WD),parts[j]? =some d->WRd w (f j) d
theorem WPs.below{w w':World}{Aw:Option Addr}{nw cw:Nat}{parts:List WD}(h:WPs w Aw nw cw parts)(hb:Below w.heap.size w w'):WPs w' Aw nw cw parts:=by
 obtain⟨xs,h1,h2,f,h3,h4⟩:=h;exact⟨xs,h1.below hb,h2,f,h3,fun j d hj=>(h4 j d hj).keep hb⟩
theorem WPs.len{w:World}{Aw:Option Addr}{nw cw:Nat}{parts:List WD}(h:WPs w Aw nw cw parts):nw=parts.length:=by
 obtain⟨xs,h1,h2,_⟩:=h;rw [h1.len,h2]
theorem WRd.open{w:World}{l:List Value}{d:WD}(h:WRd w l d):∃q0 q1 q2 Ap np cp Aw nw cw,l=wcells q0 q1 q2 d.c d.i d.s Ap np cp Aw nw cw/\Fld w (.agg #[q0,q1,q2]) d.neg d.ln d.ld/\PRaw w Ap np cp d.poly/\WPs w Aw nw cw d.parts:=by
 cases h with
 |mk hq hp hr hl f hx hw=>exact⟨_,_,_,_,_,_,_,_,_,rfl,hq,hp,⟨_,hr,hl,f,hx,hw⟩⟩
theorem WRd.close{w:World}{q0 q1 q2:Value}{neg:Bool}{ln ld:List Nat}{c:Int}{i:Bool}{s:Int}{Ap:Option Addr}{np cp:Nat}{poly:List FldM}{Aw:Option Addr}{nw cw:Nat}{parts:List WD}
 (hq:Fld w (.agg #[q0,q1,q2]) neg ln ld)(hp:PRaw w Ap np cp poly)(hw:WPs w Aw nw cw parts):WRd w (wcells q0 q1 q2 c i s Ap np cp Aw nw cw) (.mk neg ln ld c i s poly parts):=by
 obtain⟨xs,h1,h2,f,h3,h4⟩:=hw;exact .mk hq hp h1 h2 f h3 h4
theorem WD.eta:∀d:WD,d=.mk d.neg d.ln d.ld d.c d.i d.s d.poly d.parts
 | .mk _ _ _ _ _ _ _ _=>rfl
theorem WPs.at{w:World}{Aw:Option Addr}{nw cw:Nat}{parts:List WD}(h:WPs w Aw nw cw parts){j:Nat}{d:WD}(hj:parts[j]? =some d):
 ∃b o l,Aw=some ⟨b,o,none⟩/\b<w.heap.size/\WRd w l d/\∀(k:Nat) (v:Value),l[k]? =some v->w.cell? ⟨b,o+j*8+k,none⟩=some v:=by
 obtain⟨xs,h1,h2,f,h3,h4⟩:=h;have hlt:j<parts.length:=(List.getElem?_eq_some_iff.1 hj).1;obtain⟨b,o,hA,hb,hc⟩:=h1.cells (by have:=h1.len;omega);exact⟨b,o,f j,hA,hb,h4 j d hj,fun k v hk=>hc j _ (h3 j d hj) k v hk⟩
theorem PRaw.nil(w:World)(A:Option Addr)(c:Nat):PRaw w A 0 c []:=⟨[],RdK.nil _ _ _ _,rfl,fun i m h=>by simp at h⟩
theorem WPs.nil(w:World)(A:Option Addr)(c:Nat):WPs w A 0 c []:=⟨[],RdK.nil _ _ _ _,rfl,fun _=>[],fun j d h=>by simp at h,fun j d h=>by simp at h⟩
inductive SzD (L M:Nat):WD->Prop where
 |mk {neg ln ld c i s poly parts} (h1:ln.length<=L) (h2:ld.length<=L) (hp:poly.length<=M) (hm:∀m∈poly,m.2.2.1.length<=L/\m.2.2.2.length<=L) (hn:parts.length<=1000) (hd:∀d∈parts,SzD L M d):SzD L M (.mk neg ln ld c i s poly parts)
theorem SzD.open{L M:Nat}{d:WD}(h:SzD L M d):d.ln.length<=L/\d.ld.length<=L/\d.poly.length<=M/\(∀m∈d.poly,m.2.2.1.length<=L/\m.2.2.2.length<=L)/\d.parts.length<=1000/\∀x∈d.parts,SzD L M x:=by
 cases h with
 |mk h1 h2 hp hm hn hd=>exact⟨h1,h2,hp,hm,hn,hd⟩
def fldOf(m:Mon):FldM:=(((m.1.1:Int),(m.1.2.1:Int),(m.1.2.2:Int)),decide (m.2.num<0),limbs m.2.num.natAbs,dl m.2.den)
def dOf(a:SV):WD:=.mk (decide (a.q.num<0)) (limbs a.q.num.natAbs) (dl a.q.den) a.c a.i a.s (a.p.map fldOf) []
def dOfW(x:CW):WD:=.mk (decide (x.1.q.num<0)) (limbs x.1.q.num.natAbs) (dl x.1.q.den) x.1.c x.1.i x.1.s (x.1.p.map fldOf) (x.2.map dOf)
theorem RatQ.fld{w:World}{v:Value}{q:Rat}(h:RatQ w v q):Fld w v (decide (q.num<0)) (limbs q.num.natAbs) (dl q.den):=by
 obtain⟨A,n,c,A',m,c',e,h1,h2⟩:=h;exact⟨A,n,c,A',m,c',e,h1,h2⟩
theorem Fld.ratq{w:World}{v:Value}{q:Rat}(h:Fld w v (decide (q.num<0)) (limbs q.num.natAbs) (dl q.den)):RatQ w v q:=by
 obtain⟨A,n,c,A',m,c',e,h1,h2⟩:=h.out;exact⟨A,n,c,A',m,c',e,h1,h2⟩
theorem Pol.praw{w:World}{A:Option Addr}{n c:Nat}{l:List Mon}(h:Pol w (.slice A n c) l):PRaw w A n c (l.map fldOf):=by
 obtain⟨A',n',c',xs,e,h1,h2,h3⟩:=h;cases e;refine⟨xs,h1,by rw [h2,List.length_map,List.length_map],fun i m hi=>?_⟩;rw [List.getElem?_map]at hi;obtain⟨x,hx,rfl⟩:=Option.map_eq_some_iff.1 hi;obtain⟨z0,z1,z2,a,b⟩:=h3 i (rawOf x).1 (rawOf x).2 (by rw [List.getElem?_map,hx];rfl);exact⟨z0,z1,z2,a,RatQ.fld b⟩
theorem PRaw.pol{w:World}{A:Option Addr}{n c:Nat}{l:List Mon}(h:PRaw w A n c (l.map fldOf)):Pol w (.slice A n c) l:=by
 obtain⟨xs,h1,h2,h3⟩:=h.out;refine⟨A,n,c,xs,rfl,h1,by rw [h2,List.length_map,List.length_map],fun i e q hi=>?_⟩;rw [List.getElem?_map]at hi;obtain⟨x,hx,he⟩:=Option.map_eq_some_iff.1 hi;obtain⟨z0,z1,z2,a,b⟩:=h3 i (fldOf x) (by rw [List.getElem?_map,hx];rfl);unfold rawOf at he;simp only [Prod.mk.injEq]at he;obtain⟨rfl,rfl⟩:=he;exact⟨z0,z1,z2,a,Fld.ratq b⟩
theorem Qo1{l:List Mon}:ratL (l.map fldOf)=l.map rawOf:=by
 unfold ratL;rw [List.map_map];exact List.map_congr_left (fun m _=>by
  show((((m.1.1:Int),(m.1.2.1:Int),(m.1.2.2:Int))),fq (decide (m.2.num<0)) (limbs m.2.num.natAbs) (dl m.2.den))=rawOf m;rw [Qg5];rfl)
theorem Qvl{l:List Mon}(h:VP l):polL (l.map fldOf)=l:=by
 unfold polL;rw [Qo1,Qp5 h]
theorem Qyf(a:SV):(dOf a).q=a.q:=Qg5 a.q
theorem Qj9{a:SV}(h:a.q=0):(dOf a).noQ:=by
 refine⟨?_,?_,?_⟩
 ·show decide (a.q.num<0)=false
  rw [h];rfl
 ·show limbs a.q.num.natAbs=[]
  rw [h];exact Qaf
 ·show dl a.q.den=[]
  rw [h];rfl
theorem Qdq:∀k,1<=k->k<=5->∀a,okK k a->chk k (dOf a)/\valK k (dOf a)=a:=kinds5
 (fun a h=>by
  refine⟨⟨⟨⟨?_,?_⟩,?_,?_,rfl⟩,Qfy⟩,?_⟩
  ·show a.c=0;rw [h];rfl
  ·show a.i=false;rw [h];rfl
  ·show(a.s:Int)=0;rw [h];rfl
  ·show a.p.map fldOf=[];rw [h];rfl
  ·show svQ (dOf a).q=a;rw [Qyf];exact h.symm)
 (fun a h=>by
  have hz:=h.1;refine⟨⟨⟨Qj9 (by rw [hz];rfl),?_,?_,rfl⟩,h.2⟩,hz.symm⟩
  ·show(a.s:Int)=0;rw [hz];rfl
  ·show a.p.map fldOf=[];rw [hz];rfl)
 (fun a h=>by
  have hz:=h.1;refine⟨⟨⟨⟨?_,?_⟩,?_,?_,rfl⟩,Qfy,?_,?_⟩,?_⟩
  ·show a.c=0;rw [hz];rfl
  ·show a.i=false;rw [hz];rfl
  ·show(a.s:Int)=0;rw [hz];rfl
  ·show a.p.map fldOf=[];rw [hz];rfl
  ·show decide (a.q.num<0)=false
   exact decide_eq_false (by have:=Rat.num_nonneg.2 h.2.1;omega)
  ·rw [Qyf];exact h.2.2
  ·show svQ (dOf a).q=a;rw [Qyf];exact hz.symm)
 (fun a h=>by
  have hz:=h.1;refine⟨⟨Qj9 (by rw [hz];rfl),⟨?_,?_⟩,?_,rfl⟩,?_⟩
  ·show a.c=0;rw [hz];rfl
  ·show a.i=false;rw [hz];rfl
  ·show a.p.map fldOf=[];rw [hz];rfl
  ·show svS ((a.s:Int).toNat)=a
   rw [Int.toNat_natCast];exact hz.symm)
 (fun a h=>by
  have hz:=h.1;refine⟨⟨⟨Qj9 (by rw [hz];rfl),⟨?_,?_⟩,?_,rfl⟩,?_⟩,?_⟩
  ·show a.c=0;rw [hz];rfl
  ·show a.i=false;rw [hz];rfl
  ·show(a.s:Int)=0;rw [hz];rfl
  ·show vraw (ratL (a.p.map fldOf));rw [Qo1];exact Qi5 h.2
  ·show svP (polL (a.p.map fldOf))=a;rw [Qvl h.2];exact hz.symm)
theorem Qo2{k:Nat}(h1:1<=k)(h5:k<=5){a:SV}(h:okK k a):takeK k (dOf a)=a:=by
 obtain⟨e1,e2⟩:=Qdq k h1 h5 a h;rw [Qbj e1,e2]
theorem Qo3:∀ {ks:List Nat} {us:List SV},(∀k∈ks,kind5 k)->okL ks us->chkL ks (us.map dOf)/\takeL ks (us.map dOf)=us
 |[],[],_,_=>⟨trivial,rfl⟩
 |k::ks,a::us,hk,h=>by
  obtain⟨e1,e2⟩:=Qo3 (fun j hj=>hk j (by simp [hj])) h.2;refine⟨⟨(Qdq k (hk k (by simp)).1 (hk k (by simp)).2 a h.1).1,e1⟩,?_⟩;show takeK k (dOf a)::takeL ks (us.map dOf)=a::us;rw [Qo2 (hk k (by simp)).1 (hk k (by simp)).2 h.1,e2]
 |[],_::_,_,h=>h.elim
 |_::_,[],_,h=>h.elim
theorem Qco:∀ {r:Rg},okRg r->∀ {x:CW},okW r x->chkR r (dOfW x)/\takeR r (dOfW x)=x
 | .one k,hr,(a,l),h=>by
   obtain⟨h1,h2⟩:=h;have h2':l=[]:=h2;subst h2';have e:=Qdq k hr.1 hr.2 a h1;refine⟨e.1,?_⟩;rw [Qhz];show(takeK k (dOf a),([]:List SV))=(a,[]);rw [Qo2 hr.1 hr.2 h1]
 | .prod ks,hr,(a,l),h=>by
   obtain⟨h1,h2⟩:=h;have h1':a=svZ:=h1;subst h1';obtain⟨e1,e2⟩:=Qo3 hr.2.2 h2;have hc:chkR (.prod ks) (dOfW (svZ,l)):=⟨⟨Qj9 (a:=svZ) rfl,⟨rfl,rfl⟩,rfl,rfl⟩,e1⟩;refine⟨hc,?_⟩;rw [Qda hc];show(svZ,takeL ks (l.map dOf))=(svZ,l);rw [e2]
theorem Qo4{k:Nat}(h1:1<=k)(h5:k<=5){a:SV}(h:okK k a):bits (dOf a):=by
 refine .mk ?_ (fun d hd=>by cases hd);have:a.s<=18446744073709551615:=by
  revert h;exact kinds5 (P:=fun k=>okK k a->a.s<=18446744073709551615) (fun h=>by rw [h];exact zero_le _) (fun h=>by rw [h.1];exact zero_le _) (fun h=>by rw [h.1];exact zero_le _) (fun h=>h.2) (fun h=>by rw [h.1];exact zero_le _) k h1 h5
 omega
inductive lgtD:WD->Prop where
 |mk {neg ln ld c i s poly parts} (h1:ln.length<=3) (h2:ld.length<=3) (hp:poly.length<=8) (hm:∀m∈poly,m.2.2.1.length<=2/\m.2.2.2.length<=2) (hn:parts.length<=4) (hd:∀d∈parts,lgtD d):lgtD (.mk neg ln ld c i s poly parts)
theorem lgtD.szd{d:WD}(h:lgtD d):SzD 3 8 d:=by
 induction h with
 |mk h1 h2 hp hm hn _ ih=>exact .mk h1 h2 hp (fun m hx=>⟨le_trans (hm m hx).1 (by omega),le_trans (hm m hx).2 (by omega)⟩) (by omega) ih
def ck(k:Nat)(d:WD):Prop:=
 match k with
 |1=>d.onlyQ
 |5=>d.onlyP
 |k=>chk k d
noncomputable def cleanD(k:Nat)(d:WD):WD:=by
 classical
 exact if ck k d then d else dOf (zeroK k)
theorem Qch{k:Nat}{d:WD}(h:ck k d):cleanD k d=d:=by unfold cleanD;exact if_pos h
theorem Qci{k:Nat}{d:WD}(h:¬ck k d):cleanD k d=dOf (zeroK k):=by unfold cleanD;exact if_neg h
theorem Qka{k:Nat}(h1:1<=k)(h5:k<=5):valK k (dOf (zeroK k))=zeroK k:=(Qdq k h1 h5 _ (Qcx k h1 h5)).2
theorem Qnq(d:WD):takeK 1 d=valK 1 (cleanD 1 d):=by
 by_cases h:d.onlyQ
 ·rw [Qch (k:=1) h]
  by_cases hv:vld d.neg d.ln d.ld=true
  ·rw [Qbj (k:=1) ⟨h,hv⟩]
  ·rw [Qcb (k:=1) (fun hh=>hv hh.2)]
   have:d.q=0:=by unfold WD.q fq;rw [if_neg hv]
   show zeroK 1=svQ d.q;rw [this];rfl
 ·rw [Qci (k:=1) h,Qcb (k:=1) (fun hh=>h hh.1),Qka (by decide) (by decide)]
theorem Qnr(d:WD):takeK 5 d=valK 5 (cleanD 5 d):=by
 by_cases h:d.onlyP
 ·rw [Qch (k:=5) h]
  by_cases hv:vraw (ratL d.poly)
  ·rw [Qbj (k:=5) ⟨h,hv⟩]
  ·rw [Qcb (k:=5) (fun hh=>hv hh.2)]
   show zeroK 5=svP (polL d.poly);unfold polL;rw [Qc7 hv];rfl
 ·rw [Qci (k:=5) h,Qcb (k:=5) (fun hh=>h hh.1),Qka (by decide) (by decide)]
theorem Qfb{k:Nat}(h1:1<=k)(h5:k<=5)(e:∀d,ck k d↔chk k d)(d:WD):takeK k d=valK k (cleanD k d):=by
 by_cases h:chk k d
 ·rw [Qch ((e d).2 h),Qbj h]
 ·rw [Qci (fun hh=>h ((e d).1 hh)),Qcb h,Qka h1 h5]
theorem Qp9:∀k,1<=k->k<=5->∀d,takeK k d=valK k (cleanD k d):=kinds5 Qnq (Qfb (by decide) (by decide) (fun _=>Iff.rfl)) (Qfb (by decide) (by decide) (fun _=>Iff.rfl)) (Qfb (by decide) (by decide) (fun _=>Iff.rfl)) Qnr
theorem Qyg:∀k,1<=k->k<=5->ck k (dOf (zeroK k)):=kinds5 (Qdq 1 (by decide) (by decide) _ (Qcx 1 (by decide) (by decide))).1.1 (Qdq 2 (by decide) (by decide) _ (Qcx 2 (by decide) (by decide))).1 (Qdq 3 (by decide) (by decide) _ (Qcx 3 (by decide) (by decide))).1 (Qdq 4 (by decide) (by decide) _ (Qcx 4 (by decide) (by decide))).1 (Qdq 5 (by decide) (by decide) _ (Qcx 5 (by decide) (by decide))).1.1
theorem Qvm{k:Nat}(h1:1<=k)(h5:k<=5)(d:WD):ck k (cleanD k d):=by
 by_cases h:ck k d
 ·rw [Qch h];exact h
 ·rw [Qci h];exact Qyg k h1 h5
noncomputable def cleanW(r:Rg)(d:WD):WD:=by
 classical
 exact match r with
  | .one k=>cleanD k d
  | .prod ks=>if chkR (.prod ks) d then d else dOfW (zeroR (.prod ks))
def blankD:WD:=.mk false [] [] 0 false 0 [] []
noncomputable def eqD(d e:WD):Bool:= @decide (d=e) (Classical.propDecidable _)
theorem Qfc{d e:WD}:eqD d e=true↔d=e:=by
 unfold eqD;exact @decide_eq_true_iff _ (Classical.propDecidable _)
theorem Qg7(d:WD):eqD d d=true:=Qfc.2 rfl
noncomputable def eqL(l k:List WD):Bool:= @decide (l=k) (Classical.propDecidable _)
theorem Qfd{l k:List WD}:eqL l k=true↔l=k:=by
 unfold eqL;exact @decide_eq_true_iff _ (Classical.propDecidable _)
def eqN(d e:WD):Bool:=decide (d.neg=e.neg) && (decide (d.ln=e.ln) && decide (d.ld=e.ld))
theorem wd_ext{d e:WD}:d=e↔d.c=e.c/\d.i=e.i/\d.s=e.s/\eqN d e=true/\d.poly=e.poly/\d.parts=e.parts:=by
 constructor
 ·rintro rfl
  exact⟨rfl,rfl,rfl,by unfold eqN;simp,rfl,rfl⟩
 ·rintro⟨h1,h2,h3,h4,h5,h6⟩
  unfold eqN at h4;simp only [Bool.and_eq_true,decide_eq_true_eq]at h4;rw [WD.eta d,WD.eta e,h1,h2,h3,h4.1,h4.2.1,h4.2.2,h5,h6]
theorem Qlo(d e:WD):eqD d e=(decide (d.c=e.c) && (decide (d.i=e.i) && (decide (d.s=e.s) && (eqN d e && (decide (d.poly=e.poly) && eqL d.parts e.parts))))):=by
 rw [Bool.eq_iff_iff,Qfc,wd_ext];simp only [Bool.and_eq_true,decide_eq_true_eq,Qfd]
theorem WD.parts_lt{d x:WD}(h:x∈d.parts):SizeOf.sizeOf x<SizeOf.sizeOf d:=by
 cases d with
 |mk neg ln ld c i s poly parts=>
  have h1:=List.sizeOf_lt_of_mem (show x∈parts from h);simp only [WD.mk.sizeOf_spec];omega
theorem Qsz(d:WD):d.onlyQ↔WD.mk false [] [] d.c d.i d.s d.poly d.parts=blankD:=by
 unfold WD.onlyQ WD.noC blankD;constructor
 ·rintro⟨⟨h1,h2⟩,h3,h4,h5⟩
  rw [h1,h2,h3,h4,h5]
 ·intro h
  injection h with _ _ _ h1 h2 h3 h4 h5;exact⟨⟨h1,h2⟩,h3,h4,h5⟩
theorem Qs0(d:WD):d.onlyP↔WD.mk d.neg d.ln d.ld d.c d.i d.s [] d.parts=blankD:=by
 unfold WD.onlyP WD.noQ WD.noC blankD;constructor
 ·rintro⟨⟨h1,h2,h3⟩,⟨h4,h5⟩,h6,h7⟩
  rw [h1,h2,h3,h4,h5,h6,h7]
 ·intro h
  injection h with h1 h2 h3 h4 h5 h6 _ h7;exact⟨⟨h1,h2,h3⟩,⟨h4,h5⟩,h6,h7⟩
theorem Qs1(d:WD):d.onlyS↔WD.mk d.neg d.ln d.ld d.c d.i 0 d.poly d.parts=blankD:=by
 unfold WD.onlyS WD.noQ WD.noC blankD;constructor
 ·rintro⟨⟨h1,h2,h3⟩,⟨h4,h5⟩,h6,h7⟩
  rw [h1,h2,h3,h4,h5,h6,h7]
 ·intro h
  injection h with h1 h2 h3 h4 h5 _ h6 h7;exact⟨⟨h1,h2,h3⟩,⟨h4,h5⟩,h6,h7⟩
theorem Qs2(d:WD):d.onlyL↔WD.mk d.neg d.ln d.ld d.c d.i d.s d.poly []=blankD:=by
 unfold WD.onlyL WD.noQ WD.noC blankD;constructor
 ·rintro⟨⟨h1,h2,h3⟩,⟨h4,h5⟩,h6,h7⟩
  rw [h1,h2,h3,h4,h5,h6,h7]
 ·intro h
  injection h with h1 h2 h3 h4 h5 h6 h7 _;exact⟨⟨h1,h2,h3⟩,⟨h4,h5⟩,h6,h7⟩
theorem Qs3{d:WD}(hi:d.i=true):chk 2 d↔WD.mk d.neg d.ln d.ld d.c false d.s d.poly d.parts=blankD:=by
 show(d.onlyC/\0<=d.c/\d.c<=topCost/\(d.i=true->d.c=0))↔_;unfold WD.onlyC WD.noQ blankD;constructor
 ·rintro⟨⟨⟨h1,h2,h3⟩,h4,h5,h6⟩,_,_,h7⟩
  rw [h1,h2,h3,h4,h5,h6,h7 hi]
 ·intro h
  injection h with h1 h2 h3 h4 _ h5 h6 h7;exact⟨⟨⟨h1,h2,h3⟩,h5,h6,h7⟩,by rw [h4];decide,by rw [h4];decide,fun _=>h4⟩
theorem Qs4{d:WD}(hi:d.i=false):chk 2 d↔WD.mk d.neg d.ln d.ld 0 d.i d.s d.poly d.parts=blankD/\0<=d.c/\d.c<=topCost:=by
 show(d.onlyC/\0<=d.c/\d.c<=topCost/\(d.i=true->d.c=0))↔_;unfold WD.onlyC WD.noQ blankD;constructor
 ·rintro⟨⟨⟨h1,h2,h3⟩,h4,h5,h6⟩,h7,h8,_⟩
  rw [h1,h2,h3,h4,h5,h6,hi];exact⟨rfl,h7,h8⟩
 ·rintro⟨h,h7,h8⟩
  injection h with h1 h2 h3 _ _ h4 h5 h6;exact⟨⟨⟨h1,h2,h3⟩,h4,h5,h6⟩,h7,h8,fun h=>by rw [hi]at h;cases h⟩
def isW8(l:List Value):Prop:=∃(b:Bool) (A:Option Addr) (n c:Nat) (A':Option Addr) (n' c':Nat) (k:Int) (i:Bool) (s:Int) (Ap:Option Addr) (np cp:Nat) (Aw:Option Addr) (nw cw:Nat),l=wcells (.bool b) (.slice A n c) (.slice A' n' c') k i s Ap np cp Aw nw cw
theorem isW8.len{l:List Value}(h:isW8 l):l.length=8:=by
 obtain⟨_,_,_,_,_,_,_,_,_,_,_,_,_,_,_,_,rfl⟩:=h;rfl
theorem isW8.i64{l:List Value}(h:isW8 l){j:Nat}{a:Int}(hj:l[j]? =some (.int .i64 a)):j=3:=by
 obtain⟨_,_,_,_,_,_,_,_,_,_,_,_,_,_,_,_,rfl⟩:=h
 match j,hj with
 |0,h=>simp at h
 |1,h=>simp at h
 |2,h=>simp at h
 |3,_=>rfl
 |4,h=>simp at h
 |5,h=>simp at h
 |6,h=>simp at h
 |7,h=>simp at h
 |j+8,h=>simp at h
theorem isW8.u32{l:List Value}(h:isW8 l){v:Value}(hv:v∈l)(x:Nat):v≠ .int .u32 (x:Int):=by
 obtain⟨_,_,_,_,_,_,_,_,_,_,_,_,_,_,_,_,rfl⟩:=h;simp only [List.mem_cons,List.not_mem_nil,or_false]at hv;rcases hv with rfl|rfl|rfl|rfl|rfl|rfl|rfl|rfl<;>simp
theorem WRd.isW8{w:World}{l:List Value}{d:WD}(h:WRd w l d):isW8 l:=by
 obtain⟨q0,q1,q2,Ap,np,cp,Aw,nw,cw,rfl,hq,hp,hw⟩:=h.open;obtain⟨A,n,c,A',m,c',e,_,_⟩:=hq.out;injection e with e;simp only [Array.mk.injEq,List.cons.injEq,and_true]at e;obtain⟨rfl,rfl,rfl⟩:=e;exact⟨_,_,_,_,_,_,_,_,_,_,_,_,_,_,_,_,rfl⟩
def WBlk(cells:List Value):Prop:=∃ws:List (List Value),cells=ws.flatten/\∀x∈ws,isW8 x
theorem flat8:∀ {ws:List (List Value)},(∀x∈ws,x.length=8)->∀ {k:Nat} {v:Value},ws.flatten[k]? =some v->∃x,ws[k / 8]? =some x/\x[k%8]? =some v
 |[],_,k,v,h=>by simp at h
 |y::ws,hl,k,v,h=>by
  have hy:=hl y (by simp);rw [List.flatten_cons]at h;by_cases hk:k<8
  ·rw [List.getElem?_append_left (by omega)]at h
   rw [Nat.div_eq_of_lt hk,Nat.mod_eq_of_lt hk];exact⟨y,rfl,h⟩
  ·rw [List.getElem?_append_right (by omega),hy]at h
   obtain⟨x,h1,h2⟩:=flat8 (ws:=ws) (fun x hx=>hl x (by simp [hx])) h;have e1:k / 8=(k-8) / 8+1:=(by omega);have e2:k%8=(k-8)%8:=(by omega);rw [e1,e2];exact⟨x,by rw [List.getElem?_cons_succ];exact h1,h2⟩
theorem WBlk.i64{cells:List Value}(h:WBlk cells){k:Nat}{a:Int}(hk:cells[k]? =some (.int .i64 a)):k%8=3:=by
 obtain⟨ws,rfl,hw⟩:=h;obtain⟨x,h1,h2⟩:=flat8 (fun x hx=>(hw x hx).len) hk;exact(hw x (List.mem_of_getElem? h1)).i64 h2
theorem WBlk.u32{cells:List Value}(h:WBlk cells):∀v∈cells,∀x:Nat,v≠ .int .u32 (x:Int):=by
 obtain⟨ws,rfl,hw⟩:=h;intro v hv x;obtain⟨y,hy,hv⟩:=List.mem_flatten.1 hv;exact(hw y hy).u32 hv x
structure Apart (g:Nat) (w w':World):Prop where
 size:w.heap.size<=w'.heap.size
 block:∀b,b≠g->b<w.heap.size->w'.heap[b]? =w.heap[b]?
theorem Apart.cell{g:Nat}{w w':World}(h:Apart g w w'){b o:Nat}(hb:b≠g)(hlt:b<w.heap.size):w'.cell? ⟨b,o,none⟩=w.cell? ⟨b,o,none⟩:=World.cell?_of_block (w:=w) (h.block b hb hlt)
theorem Apart.trans{g:Nat}{a b c:World}(h:Apart g a b)(h':Apart g b c):Apart g a c:=⟨le_trans h.size h'.size,fun x hx hl=>(h'.block x hx (lt_of_lt_of_le hl h.size)).trans (h.block x hx hl)⟩
theorem Num.apart{w w':World}{l:List Nat}{A:Option Addr}{n c g:Nat}(h:Num w l A n c)(ha:Apart g w w'){cells:List Value}{t:TypeId}(hc:Cs w g cells t)(hb:WBlk cells):Num w' l A n c:=by
 have hne:=h.ne_cs hc hb.u32;refine⟨h.len,h.cap,h.lim,fun hn=>?_⟩;obtain⟨b,o,rfl,hlt,hx⟩:=h.cells hn;have hbg:b≠g:=hne hn _ rfl;exact⟨b,o,rfl,lt_of_lt_of_le hlt ha.size,fun k x hk=>(ha.cell hbg hlt).trans (hx k x hk)⟩
theorem Fld.apart{w w':World}{v:Value}{neg:Bool}{ln ld:List Nat}{g:Nat}(h:Fld w v neg ln ld)(ha:Apart g w w'){cells:List Value}{t:TypeId}(hc:Cs w g cells t)(hb:WBlk cells):Fld w' v neg ln ld:=by
 obtain⟨A,n,c,A',m,c',e,h1,h2⟩:=h.out;exact⟨A,n,c,A',m,c',e,h1.apart ha hc hb,h2.apart ha hc hb⟩
theorem PRaw.apart{w w':World}{A:Option Addr}{n c g:Nat}{l:List FldM}(h:PRaw w A n c l)(ha:Apart g w w'){cells:List Value}{t:TypeId}(hc:Cs w g cells t)(hb:WBlk cells):PRaw w' A n c l:=by
 obtain⟨xs,h1,h2,h3⟩:=h.out;refine⟨xs,⟨h1.len,h1.cap,fun hn=>?_⟩,h2,fun i m hm=>?_⟩
 ·obtain⟨b,o,rfl,hlt,hx⟩:=h1.cells hn
  refine⟨b,o,rfl,lt_of_lt_of_le hlt ha.size,fun i x hi j v hj=>(ha.cell ?_ hlt).trans (hx i x hi j v hj)⟩;rintro rfl;have h0:0<l.length:=by have:=h1.len;omega
  obtain⟨z0,z1,z2,e1,_⟩:=h3 0 l[0] (List.getElem?_eq_getElem h0);have c0:=hx 0 _ e1 0 _ rfl;have c1:=hx 0 _ e1 1 _ rfl;unfold Cs at hc;rw [cell_of_row w b _ _ _ _ hc,List.getElem?_toArray]at c0 c1;have k0:=hb.i64 c0;have k1:=hb.i64 c1;omega
 ·obtain⟨z0,z1,z2,e1,e2⟩:=h3 i m hm
  exact⟨z0,z1,z2,e1,e2.apart ha hc hb⟩
theorem WRd.apart{w w':World}{l:List Value}{d:WD}{g:Nat}(h:WRd w l d)(hp:d.parts=[])(ha:Apart g w w'){cells:List Value}{t:TypeId}(hc:Cs w g cells t)(hb:WBlk cells):WRd w' l d:=by
 cases h with
 |mk hq hpo hr hl f hx hw=>
  have hp':_=[]:=hp;simp only [WD.parts]at hp';subst hp';have hn:=hr.len;rw [hl,List.length_nil]at hn;refine .mk (hq.apart ha hc hb) (hpo.apart ha hc hb) ⟨hr.len,hr.cap,fun h=>by omega⟩ hl f hx (fun j d hj=>by simp at hj)
theorem WPs.of_cs{w:World}{g:Nat}{ws:List (List Value)}{t:TypeId}{parts:List WD}(h:Cs w g ws.flatten t)(hl:ws.length=parts.length)(hp:∀(j:Nat) (d:WD),parts[j]? =some d->∃l,ws[j]? =some l/\WRd w l d):WPs w (some ⟨g,0,none⟩) parts.length parts.length parts:=by
 have h8:∀x∈ws,x.length=8:=fun x hx=>by
  obtain⟨j,hj⟩:=List.mem_iff_getElem?.1 hx;have hlt:j<ws.length:=(List.getElem?_eq_some_iff.1 hj).1;obtain⟨l,e1,e2⟩:=hp j parts[j] (List.getElem?_eq_getElem (by omega));rw [hj]at e1;obtain rfl:=Option.some.inj e1;exact e2.isW8.len
 refine⟨ws,⟨hl.symm,le_refl _,fun hn=>⟨g,0,rfl,h.lt,fun i x hi j v hj=>?_⟩⟩,hl,fun j=>ws.getD j [],fun j d hj=>?_,fun j d hj=>?_⟩
 ·refine h.cell ?_
  have hx:=h8 x (List.mem_of_getElem? hi);have hj8:j<8:=by have:=(List.getElem?_eq_some_iff.1 hj).1;omega
  rw [Nat.zero_add];clear hp hn hl h;revert i
  induction ws with
  |nil=>intro i hi;simp at hi
  |cons y ws ih=>
   intro i hi;have hy:=h8 y (by simp);cases i with
   |zero=>
    obtain rfl:=Option.some.inj (show some y=some x from hi);rw [List.flatten_cons,List.getElem?_append_left (by omega),Nat.zero_mul,Nat.zero_add];exact hj
   |succ i=>
    rw [List.flatten_cons,List.getElem?_append_right (by omega),hy];have e:(i+1)*8+j-8=i*8+j:=(by omega);rw [e];exact ih (fun z hz=>h8 z (by simp [hz])) i (by rw [List.getElem?_cons_succ]at hi;exact hi)
 ·obtain⟨l,e1,e2⟩:=hp j d hj
  show ws[j]? =some (ws.getD j []);rw [List.getD_eq_getElem?_getD,e1];rfl
 ·obtain⟨l,e1,e2⟩:=hp j d hj
  show WRd w (ws.getD j []) d;rw [List.getD_eq_getElem?_getD,e1];exact e2
theorem WRd.shape{w:World}{l:List Value}{d:WD}(h:WRd w l d):∃A n c B m e Ap np cp Aw nw cw,l=wcells (.bool d.neg) (.slice A n c) (.slice B m e) d.c d.i d.s Ap np cp Aw nw cw/\Num w d.ln A n c/\Num w d.ld B m e/\PRaw w Ap np cp d.poly/\WPs w Aw nw cw d.parts:=by
 obtain⟨q0,q1,q2,Ap,np,cp,Aw,nw,cw,rfl,hq,hp,hw⟩:=h.open;obtain⟨A,n,c,B,m,e,he,h1,h2⟩:=hq.out;injection he with he;simp only [Array.mk.injEq,List.cons.injEq,and_true]at he;obtain⟨rfl,rfl,rfl⟩:=he;exact⟨A,n,c,B,m,e,Ap,np,cp,Aw,nw,cw,rfl,h1,h2,hp,hw⟩
theorem WRd.made{w:World}{neg:Bool}{ln ld:List Nat}{A B:Option Addr}{n c m e:Nat}{k:Int}{i:Bool}{s:Int}{Ap:Option Addr}{np cp:Nat}{poly:List FldM}{Aw:Option Addr}{nw cw:Nat}{parts:List WD}
 (h1:Num w ln A n c)(h2:Num w ld B m e)(hp:PRaw w Ap np cp poly)(hw:WPs w Aw nw cw parts):WRd w (wcells (.bool neg) (.slice A n c) (.slice B m e) k i s Ap np cp Aw nw cw) (.mk neg ln ld k i s poly parts):=
 WRd.close ⟨A,n,c,B,m,e,rfl,h1,h2⟩ hp hw
def eqF(a b:Bool × List Nat × List Nat):Bool:=decide (a.1=b.1) && (decide (a.2.1=b.2.1) && decide (a.2.2=b.2.2))
theorem Qyh{a b:Bool × List Nat × List Nat}:eqF a b=true↔a=b:=by
 obtain⟨a0,a1,a2⟩:=a;obtain⟨b0,b1,b2⟩:=b;unfold eqF;simp only [Bool.and_eq_true,decide_eq_true_eq,Prod.mk.injEq]
abbrev small(n:Nat):Prop:=n<=1000000
theorem Qe1(neg neg':Bool)(A B A' B':Option Addr)(n c m e n' c' m' e':Nat)(ln ld ln' ld':List Nat)(w:World)(V:Bool)(h1:Num w ln A n c)(h2:Num w ld B m e)(h1':Num w ln' A' n' c')(h2':Num w ld' B' m' e')
 (hn:small n)(hm:small m)(hn':small n')(hm':small m')(H:Hid (eqF (neg,ln,ld) (neg',ln',ld')=V)):
 Calls prog 42 #[.agg #[.bool neg,.slice A n c,.slice B m e],.agg #[.bool neg',.slice A' n' c',.slice B' m' e']] w (RetV w (.bool V)):=by
 obtain⟨hb0,c1,c2⟩:=blk2 w [.bool neg,.slice A n c,.slice B m e] [.bool neg',.slice A' n' c',.slice B' m' e'] 27 27;have H1:=hid h1;have H2:=hid h2;have H1':=hid h1';have H2':=hid h2';have HN:=hid hn;have HM:=hid hm;have HN':=hid hn';have HM':=hid hm';clear h1 h2 h1' h2' hn hm hn' hm';go_enter func42,ntmps42;obtain⟨V1,hV1⟩:∃V1,decide (ln=ln')=V1:=⟨_,rfl⟩;obtain⟨V2,hV2⟩:∃V2,decide (ld=ld')=V2:=⟨_,rfl⟩;have HV1:=hid hV1;have HV2:=hid hV2;clear hV1 hV2;have HE:Hid ((decide (neg=neg') && (V1 && V2))=V):=hid (by rw [<-H.out,<-HV1.out,<-HV2.out];rfl);clear H;by_cases hg:neg=neg'
 ·subst hg
  have g0:(neg==neg)=true:=by simp
  replace HE:Hid ((V1 && V2)=V):=hid (by have:=HE.out;simpa using this);go_wp2_with fail
  refine(Qd5 A A' n c n' c' ln ln' _ V1 (H1.out.below hb0) (H1'.out.below hb0) (by have:=HN.out;omega) (by have:=HN'.out;omega) HV1).mono ?_;rintro e1 w1 ⟨rfl,q,rfl⟩;cases V1
  ·replace HE:Hid (false=V):=HE
   go_wp2_with fail
   have:=HE.out;subst this;go_ret;exact⟨rfl,Qah hb0 _⟩
  ·replace HE:Hid (V2=V):=HE
   go_wp2_with fail
   refine(Qd5 B B' m e m' e' ld ld' _ V2 (H2.out.below (Qah hb0 _)) (H2'.out.below (Qah hb0 _)) (by have:=HM.out;omega) (by have:=HM'.out;omega) HV2).mono ?_;rintro e1 w1 ⟨rfl,q',rfl⟩;go_wp2_with fail
   have:=HE.out;subst this;go_ret;exact⟨rfl,Qah hb0 _⟩
 ·have g0:(neg==neg')=false:=by simpa using hg
  replace HE:Hid (false=V):=hid (by have:=HE.out;simpa [hg] using this);clear hg;go_wp2_with fail
  have:=HE.out;subst this;go_ret;exact⟨rfl,hb0⟩
theorem PRaw.at6n{w:World}{A:Option Addr}{n c:Nat}{l:List FldM}(h:PRaw w A n c l){i:Nat}{m:FldM}(hi:l[i]? =some m):
 ∃b o A' c' B' e',A=some ⟨b,o,none⟩/\b<w.heap.size/\At6 w b (o+i*6) (.int .i64 m.1.1) (.int .i64 m.1.2.1) (.int .i64 m.1.2.2) (.bool m.2.1) (.slice A' m.2.2.1.length c') (.slice B' m.2.2.2.length e')/\Num w m.2.2.1 A' m.2.2.1.length c'/\Num w m.2.2.2 B' m.2.2.2.length e':=by
 obtain⟨xs,h1,h2,h3⟩:=h.out;obtain⟨z0,z1,z2,a,b⟩:=h3 i m hi;obtain⟨A',n',c',B',m',e',e,hA,hB⟩:=b.out;injection e with e;simp only [Array.mk.injEq,List.cons.injEq,and_true]at e;obtain⟨rfl,rfl,rfl⟩:=e;obtain⟨b0,o0,rfl,hlt,hc⟩:=h1.at6 a;have k1:=hA.len;have k2:=hB.len;subst k1 k2;exact⟨b0,o0,A',c',B',e',rfl,hlt,hc,hA,hB⟩
def eqM(a b:FldM):Bool:=decide (a.1=b.1) && eqF a.2 b.2
theorem Qs5{a b:FldM}:eqM a b=true↔a=b:=by
 unfold eqM;rw [Bool.and_eq_true,decide_eq_true_eq,Qyh];exact⟨fun h=>Prod.ext h.1 h.2,fun h=>⟨congrArg Prod.fst h,congrArg Prod.snd h⟩⟩
theorem Qgx(m1 m2:FldM)(A B A' B':Option Addr)(c e c' e':Nat)(w:World)(V:Bool)(h1:Num w m1.2.2.1 A m1.2.2.1.length c)(h2:Num w m1.2.2.2 B m1.2.2.2.length e)(h1':Num w m2.2.2.1 A' m2.2.2.1.length c')(h2':Num w m2.2.2.2 B' m2.2.2.2.length e')
 (hn:small m1.2.2.1.length/\small m1.2.2.2.length)(hn':small m2.2.2.1.length/\small m2.2.2.2.length)(H:Hid (eqM m1 m2=V)):
 Calls prog 44 #[.agg #[.int .i64 m1.1.1,.int .i64 m1.1.2.1,.int .i64 m1.1.2.2,.bool m1.2.1,.slice A m1.2.2.1.length c,.slice B m1.2.2.2.length e],.agg #[.int .i64 m2.1.1,.int .i64 m2.1.2.1,.int .i64 m2.1.2.2,.bool m2.2.1,.slice A' m2.2.2.1.length c',.slice B' m2.2.2.2.length e']] w (RetV w (.bool V)):=by
 obtain⟨⟨a0,a1,a2⟩,neg,ln,ld⟩:=m1;obtain⟨⟨b0,b1,b2⟩,neg',ln',ld'⟩:=m2;simp only at*
 generalize ln.length=n at*
 generalize ld.length=m at*
 generalize ln'.length=n' at*
 generalize ld'.length=m' at*
 obtain⟨hb0,c1,c2⟩:=blk2 w [.int .i64 a0,.int .i64 a1,.int .i64 a2,.bool neg,.slice A n c,.slice B m e] [.int .i64 b0,.int .i64 b1,.int .i64 b2,.bool neg',.slice A' n' c',.slice B' m' e'] 71 71;obtain⟨V1,hV1⟩:∃V1,eqF (neg,ln,ld) (neg',ln',ld')=V1:=⟨_,rfl⟩;have HV1:=hid hV1;clear hV1;have HC:=hid (Qe1 neg neg' A B A' B' n c m e n' c' m' e' ln ld ln' ld' _ V1 (h1.below hb0) (h2.below hb0) (h1'.below hb0) (h2'.below hb0) hn.1 hn.2 hn'.1 hn'.2 HV1);have HE:Hid ((decide ((a0,a1,a2)=(b0,b1,b2)) && V1)=V):=hid (by rw [<-H.out,<-HV1.out];rfl);clear H h1 h2 h1' h2' hn hn';go_enter func44,ntmps44;by_cases hg:a0=b0/\a1=b1/\a2=b2
 ·obtain⟨rfl,rfl,rfl⟩:=hg
  have heq:∀w:World,(Op.equalIn 10000 69 (.agg #[.int .i64 a0,.int .i64 a1,.int .i64 a2]) (.agg #[.int .i64 a0,.int .i64 a1,.int .i64 a2])).run prog w=.ok true w:=fun w=>by
   rw [Qj8];simp
  replace HE:Hid (V1=V):=hid (by have:=HE.out;simpa using this);go_wp2_with fail
  refine HC.out.mono ?_;rintro e1 w1 ⟨rfl,hb1⟩;go_wp2_with fail
  have:=HE.out;subst this;go_ret;exact⟨rfl,bt hb0 hb1⟩
 ·have heq:∀w:World,(Op.equalIn 10000 69 (.agg #[.int .i64 a0,.int .i64 a1,.int .i64 a2]) (.agg #[.int .i64 b0,.int .i64 b1,.int .i64 b2])).run prog w=.ok false w:=fun w=>by
   rw [Qj8]
   congr 1
   rw [Bool.eq_false_iff];intro hh;simp only [Bool.and_eq_true,beq_iff_eq]at hh;exact hg hh
  replace HE:Hid (false=V):=hid (by
   have:=HE.out;rw [decide_eq_false (fun h=>hg (by simpa using h)),Bool.false_and]at this;exact this)
  clear hg;go_wp2_with fail
  have:=HE.out;subst this;go_ret;exact⟨rfl,hb0⟩
theorem equalFuncM(A A':Option Addr)(n c n' c':Nat)(l l':List FldM)(w:World)(V:Bool)(h:PRaw w A n c l)(h':PRaw w A' n' c' l')(hn:small n)(hm:∀m∈l,small m.2.2.1.length/\small m.2.2.2.length)(hm':∀m∈l',small m.2.2.1.length/\small m.2.2.2.length)(H:Hid (decide (l=l')=V)):
 Calls prog 43 #[.slice A n c,.slice A' n' c',.func (.func 44) #[] #[]] w (RetV w (.bool V)):=by
 have HN:=hid h.len;have HN':=hid h'.len;have HP:=hid h;have HP':=hid h';have HM:=hid hm;have HM':=hid hm';clear h h' hm hm';go_enter func43,ntmps43;by_cases hnn:n=n'
 ·subst hnn
  have g0:((n:Int) !=n)=false:=by simp
  go_wp2_with fail
  go_loopw [17] (fun i wr=> ∃k:Nat,k<=n/\i=.int .i64 (k:Int)/\Below w.heap.size w wr/\Hid (∀j,j<k->l[j]? =l'[j]?)) (fun i _=>(n-intOf i).toNat)
  case atStart=>exact⟨0,zero_le _,rfl,Below.refl _ _,fun j hj=>absurd hj (Nat.not_lt_zero _)⟩
  case round=>
   obtain⟨k,hk,rfl,hb,HO⟩:=hrel;have HB:=hid hb;by_cases hkn:k<n
   ·obtain⟨m,hm⟩:∃m,l[k]? =some m:=⟨l[k]'(by have:=HN.out;omega),List.getElem?_eq_getElem _⟩
    obtain⟨m',hm'⟩:∃m,l'[k]? =some m:=⟨l'[k]'(by have:=HN'.out;omega),List.getElem?_eq_getElem _⟩;obtain⟨b,o,C1,d1,D1,f1,rfl,hbq,hat,p1,p2⟩:=HP.out.at6n hm;obtain⟨b',o',C2,d2,D2,f2,rfl,hbq',hat',p1',p2'⟩:=HP'.out.at6n hm';have hlt:(k:Int)<(n:Int):=(by omega);have hw1:IntKind.i64.wrap ((k:Int)+1)=(k:Int)+1:=IntWalk.i64_in _ (by have:n<=1000000:=hn;omega);obtain⟨x0,x1,x2,x3,x4,x5⟩:=hat.below hb hbq;obtain⟨hb2,q1,q2⟩:=blk2 wr [.int .i64 m.1.1,.int .i64 m.1.2.1,.int .i64 m.1.2.2,.bool m.2.1,.slice C1 m.2.2.1.length d1,.slice D1 m.2.2.2.length f1] [.int .i64 m'.1.1,.int .i64 m'.1.2.1,.int .i64 m'.1.2.2,.bool m'.2.1,.slice C2 m'.2.2.1.length d2,.slice D2 m'.2.2.2.length f2] 71 71;have hbA:=(blk1 wr [.int .i64 m.1.1,.int .i64 m.1.2.1,.int .i64 m.1.2.2,.bool m.2.1,.slice C1 m.2.2.1.length d1,.slice D1 m.2.2.2.length f1] 71).1;obtain⟨y0,y1,y2,y3,y4,y5⟩:=hat'.below (bt hb hbA) hbq';have hb3:=bt hb hb2;obtain⟨V1,hV1⟩:∃V1,eqM m m'=V1:=⟨_,rfl⟩;have HV1:=hid hV1;have HC:=hid (Qgx m m' C1 D1 C2 D2 d1 f1 d2 f2 _ V1 (p1.below hb3) (p2.below hb3) (p1'.below hb3) (p2'.below hb3) (HM.out m (List.mem_of_getElem? hm)) (HM'.out m' (List.mem_of_getElem? hm')) HV1);have HB3:=hid hb3;have HGm:=hid hm;have HGm':=hid hm';have HK:=hid hkn;clear hV1 p1 p2 p1' p2' hat hat' hb hb2 hb3 hbA hm hm' hkn hbq hbq';go_wp2_with fail
    refine HC.out.mono ?_;rintro e1 w1 ⟨rfl,hb1⟩;have HB1:=hid (bt HB3.out hb1);clear hb1;cases V1
    ·have HF:Hid (false=V):=hid (by
      rw [<-H.out];symm;refine decide_eq_false (fun hh=>?_);have h1:=HGm.out;rw [hh,HGm'.out]at h1;obtain rfl:=Option.some.inj h1;have:=HV1.out;rw [Qs5.2 rfl]at this;cases this)
     go_wp2_with fail
     have:=HF.out;subst this;go_ret;exact⟨rfl,HB1.out⟩
    ·go_wp2_with fail
     go_roundw
     case rel=>
      refine⟨k+1,HK.out,congrArg (Value.int _) (by omega),HB1.out,fun j hj=>?_⟩;rcases lt_or_ge j k with hjk|hjk
      ·exact HO.out j hjk
      ·obtain rfl:j=k:=by omega
       rw [HGm.out,HGm'.out,Qs5.1 HV1.out]
     case measure=>simp [intOf];have:=HK.out;omega
   ·have HF:Hid (true=V):=hid (by
     rw [<-H.out];symm;refine decide_eq_true (List.ext_getElem? (fun j=>?_));rcases lt_or_ge j k with hjk|hjk
     ·exact HO.out j hjk
     ·rw [List.getElem?_eq_none (by have:=HN.out;omega),List.getElem?_eq_none (by have:=HN'.out;omega)])
    have hlt:¬(k:Int)<(n:Int):=(by omega);clear hb HO;go_wp2_with fail
    have:=HF.out;subst this;go_ret;exact⟨rfl,HB.out⟩
 ·have g0:((n:Int) !=n')=true:=by simp;omega
  have HF:Hid (false=V):=hid (by
   rw [<-H.out];symm;exact decide_eq_false (fun hh=>hnn (by rw [HN.out,HN'.out,hh])))
  clear hnn;go_wp2_with fail
  have:=HF.out;subst this;go_ret;exact⟨rfl,Below.refl _ _⟩
def At8(w:World)(b o:Nat)(z0 z1 z2 z3 z4 z5 z6 z7:Value):Prop:=
 w.cell? ⟨b,o,none⟩=some z0/\w.cell? ⟨b,o+1,none⟩=some z1/\w.cell? ⟨b,o+2,none⟩=some z2/\w.cell? ⟨b,o+3,none⟩=some z3/\w.cell? ⟨b,o+4,none⟩=some z4/\w.cell? ⟨b,o+5,none⟩=some z5/\w.cell? ⟨b,o+6,none⟩=some z6/\w.cell? ⟨b,o+7,none⟩=some z7
theorem At8.below{w w':World}{B b o:Nat}{z0 z1 z2 z3 z4 z5 z6 z7:Value}(h:At8 w b o z0 z1 z2 z3 z4 z5 z6 z7)(hb:Below B w w')(hg:b<B):At8 w' b o z0 z1 z2 z3 z4 z5 z6 z7:=by
 have e:∀k,w'.cell? ⟨b,k,none⟩=w.cell? ⟨b,k,none⟩:=fun k=>World.cell?_of_block (w:=w) (hb.block b hg)
 unfold At8 at h⊢;rw [e,e,e,e,e,e,e,e];exact h
theorem WPs.at8{w:World}{Aw:Option Addr}{nw cw:Nat}{parts:List WD}(h:WPs w Aw nw cw parts){j:Nat}{d:WD}(hj:parts[j]? =some d):
 ∃b o A n c B m e Ap np cp Av nv cv,Aw=some ⟨b,o,none⟩/\b<w.heap.size/\WRd w (wcells (.bool d.neg) (.slice A n c) (.slice B m e) d.c d.i d.s Ap np cp Av nv cv) d/\At8 w b (o+j*8) (.bool d.neg) (.slice A n c) (.slice B m e) (.int .i64 d.c) (.bool d.i) (.int .u64 d.s) (.slice Ap np cp) (.slice Av nv cv):=by
 obtain⟨b,o,l,rfl,hb,hl,hc⟩:=h.at hj;obtain⟨A,n,c,B,m,e,Ap,np,cp,Av,nv,cv,rfl,_⟩:=hl.shape;exact⟨b,o,A,n,c,B,m,e,Ap,np,cp,Av,nv,cv,rfl,hb,hl,hc 0 _ rfl,hc 1 _ rfl,hc 2 _ rfl,hc 3 _ rfl,hc 4 _ rfl,hc 5 _ rfl,hc 6 _ rfl,hc 7 _ rfl⟩
def EqOk(d e:WD):Prop:=∀(x y:List Value) (w:World) (V:Bool),WRd w x d->WRd w y e->Hid (eqD d e=V)->Calls prog 18 #[.agg x.toArray,.agg y.toArray] w (RetV w (.bool V))
theorem equalFuncW(A A':Option Addr)(n c n' c':Nat)(l l':List WD)(w:World)(V:Bool)(h:WPs w A n c l)(h':WPs w A' n' c' l')(hn:small n)(IH:∀(j:Nat) (d e:WD),l[j]? =some d->l'[j]? =some e->EqOk d e)(H:Hid (eqL l l'=V)):
 Calls prog 45 #[.slice A n c,.slice A' n' c',.func (.func 18) #[] #[]] w (RetV w (.bool V)):=by
 have HN:=hid h.len;have HN':=hid h'.len;have HP:=hid h;have HP':=hid h';have HI:=hid IH;clear h h' IH;go_enter func45,ntmps45;by_cases hnn:n=n'
 ·subst hnn
  have g0:((n:Int) !=n)=false:=by simp
  go_wp2_with fail
  go_loopw [17] (fun i wr=> ∃k:Nat,k<=n/\i=.int .i64 (k:Int)/\Below w.heap.size w wr/\Hid (∀j,j<k->l[j]? =l'[j]?)) (fun i _=>(n-intOf i).toNat)
  case atStart=>exact⟨0,zero_le _,rfl,Below.refl _ _,fun j hj=>absurd hj (Nat.not_lt_zero _)⟩
  case round=>
   obtain⟨k,hk,rfl,hb,HO⟩:=hrel;have HB:=hid hb;by_cases hkn:k<n
   ·obtain⟨m,hm⟩:∃m,l[k]? =some m:=⟨l[k]'(by have:=HN.out;omega),List.getElem?_eq_getElem _⟩
    obtain⟨m',hm'⟩:∃m,l'[k]? =some m:=⟨l'[k]'(by have:=HN'.out;omega),List.getElem?_eq_getElem _⟩;obtain⟨b,o,A1,n1,c1,B1,m1,e1,P1,p1,r1,Q1,q1,s1,rfl,hbq,hwr,hat⟩:=HP.out.at8 hm;obtain⟨b',o',A2,n2,c2,B2,m2,e2,P2,p2,r2,Q2,q2,s2,rfl,hbq',hwr',hat'⟩:=HP'.out.at8 hm';have hlt:(k:Int)<(n:Int):=(by omega);have hw1:IntKind.i64.wrap ((k:Int)+1)=(k:Int)+1:=IntWalk.i64_in _ (by have:n<=1000000:=hn;omega);obtain⟨x0,x1,x2,x3,x4,x5,x6,x7⟩:=hat.below hb hbq;have hb2:=(blk2 wr [.bool m.neg,.slice A1 n1 c1,.slice B1 m1 e1,.int .i64 m.c,.bool m.i,.int .u64 m.s,.slice P1 p1 r1,.slice Q1 q1 s1] [.bool m'.neg,.slice A2 n2 c2,.slice B2 m2 e2,.int .i64 m'.c,.bool m'.i,.int .u64 m'.s,.slice P2 p2 r2,.slice Q2 q2 s2] 32 32).1;have hbA:=(blk1 wr [.bool m.neg,.slice A1 n1 c1,.slice B1 m1 e1,.int .i64 m.c,.bool m.i,.int .u64 m.s,.slice P1 p1 r1,.slice Q1 q1 s1] 32).1;obtain⟨y0,y1,y2,y3,y4,y5,y6,y7⟩:=hat'.below (bt hb hbA) hbq';have hb3:=bt hb hb2;obtain⟨V1,hV1⟩:∃V1,eqD m m'=V1:=⟨_,rfl⟩;have HV1:=hid hV1;have HC:=hid (HI.out k m m' hm hm' _ _ _ V1 (hwr.keep hb3) (hwr'.keep hb3) HV1);have HB3:=hid hb3;have HGm:=hid hm;have HGm':=hid hm';have HK:=hid hkn;clear hV1 hat hat' hb hb2 hb3 hbA hm hm' hkn hbq hbq' hwr hwr';go_wp2_with fail
    refine HC.out.mono ?_;rintro e1 w1 ⟨rfl,hb1⟩;have HB1:=hid (bt HB3.out hb1);clear hb1;cases V1
    ·have HF:Hid (false=V):=hid (by
      rw [<-H.out];symm;rw [Bool.eq_false_iff];intro hh;have h1:=HGm.out;rw [Qfd.1 hh,HGm'.out]at h1;obtain rfl:=Option.some.inj h1;have:=HV1.out;rw [Qg7]at this;cases this)
     go_wp2_with fail
     have:=HF.out;subst this;go_ret;exact⟨rfl,HB1.out⟩
    ·go_wp2_with fail
     go_roundw
     case rel=>
      refine⟨k+1,HK.out,congrArg (Value.int _) (by omega),HB1.out,fun j hj=>?_⟩;rcases lt_or_ge j k with hjk|hjk
      ·exact HO.out j hjk
      ·obtain rfl:j=k:=by omega
       rw [HGm.out,HGm'.out,Qfc.1 HV1.out]
     case measure=>simp [intOf];have:=HK.out;omega
   ·have HF:Hid (true=V):=hid (by
     rw [<-H.out];symm;refine Qfd.2 (List.ext_getElem? (fun j=>?_));rcases lt_or_ge j k with hjk|hjk
     ·exact HO.out j hjk
     ·rw [List.getElem?_eq_none (by have:=HN.out;omega),List.getElem?_eq_none (by have:=HN'.out;omega)])
    have hlt:¬(k:Int)<(n:Int):=(by omega);clear hb HO;go_wp2_with fail
    have:=HF.out;subst this;go_ret;exact⟨rfl,HB.out⟩
 ·have g0:((n:Int) !=n')=true:=by simp;omega
  have HF:Hid (false=V):=hid (by
   rw [<-H.out];symm;rw [Bool.eq_false_iff];intro hh;exact hnn (by rw [HN.out,HN'.out,Qfd.1 hh]))
  clear hnn;go_wp2_with fail
  have:=HF.out;subst this;go_ret;exact⟨rfl,Below.refl _ _⟩
abbrev SzE(d:WD):Prop:=SzD 1000000 1000000 d
theorem SzD.up{L M L' M':Nat}{d:WD}(h:SzD L M d)(hL:L<=L')(hM:M<=M'):SzD L' M' d:=by
 induction h with
 |mk h1 h2 hp hm hn _ ih=>exact .mk (le_trans h1 hL) (le_trans h2 hL) (le_trans hp hM) (fun m hx=>⟨le_trans (hm m hx).1 hL,le_trans (hm m hx).2 hL⟩) hn ih
theorem Qqa(d d':WD)(sd:SzE d)(sd':SzE d')(IH:∀(j:Nat) (x y:WD),d.parts[j]? =some x->d'.parts[j]? =some y->EqOk x y):EqOk d d':=by
 intro x y w V hx hy H;obtain⟨A,n,c,B,m,e,P,p,r,Q,q,s,rfl,h1,h2,h3,h4⟩:=hx.shape;obtain⟨A',n',c',B',m',e',P',p',r',Q',q',s',rfl,h1',h2',h3',h4'⟩:=hy.shape;clear hx hy;obtain⟨z1,z2,z3,z4,z5,_⟩:=sd.open;obtain⟨z1',z2',z3',z4',z5',_⟩:=sd'.open;cases d with
 |mk neg ln ld k i u poly parts=>
 cases d' with
 |mk neg' ln' ld' k' i' u' poly' parts'=>
 simp only [WD.neg,WD.ln,WD.ld,WD.c,WD.i,WD.s,WD.poly,WD.parts]at*
 obtain⟨hb0,c1,c2⟩:=blk2 w [.bool neg,.slice A n c,.slice B m e,.int .i64 k,.bool i,.int .u64 u,.slice P p r,.slice Q q s] [.bool neg',.slice A' n' c',.slice B' m' e',.int .i64 k',.bool i',.int .u64 u',.slice P' p' r',.slice Q' q' s'] 32 32;obtain⟨V1,hV1⟩:∃V1,eqF (neg,ln,ld) (neg',ln',ld')=V1:=⟨_,rfl⟩;obtain⟨V2,hV2⟩:∃V2,decide (poly=poly')=V2:=⟨_,rfl⟩;obtain⟨V3,hV3⟩:∃V3,eqL parts parts'=V3:=⟨_,rfl⟩;have HE:Hid ((decide (k=k') && (decide (i=i') && (decide (u=u') && (V1 && (V2 && V3)))))=V):=hid (by
  rw [<-H.out,Qlo,<-hV1,<-hV2,<-hV3];rfl)
 have HV1:=hid hV1;have HV2:=hid hV2;have HV3:=hid hV3;have l1:=h1.len;have l2:=h2.len;have l1':=h1'.len;have l2':=h2'.len;have l3:=h3.len;have l4:=h4.len;have HC1:=hid (Qe1 neg neg' A B A' B' n c m e n' c' m' e' ln ld ln' ld' _ V1 (h1.below hb0) (h2.below hb0) (h1'.below hb0) (h2'.below hb0) (show n<=_ by omega) (show m<=_ by omega) (show n'<=_ by omega) (show m'<=_ by omega) HV1);have HC2:=hid (fun wa (hb:Below w.heap.size w wa)=>equalFuncM P P' p r p' r' poly poly' wa V2 (h3.below hb) (h3'.below hb) (show p<=_ by omega) z4 z4' HV2);have HC3:=hid (fun wa (hb:Below w.heap.size w wa)=>equalFuncW Q Q' q s q' s' parts parts' wa V3 (h4.below hb) (h4'.below hb) (show q<=_ by omega) IH HV3);clear H hV1 hV2 hV3 h1 h2 h1' h2' h3 h3' h4 h4' z1 z2 z3 z4 z5 z1' z2' z3' z4' z5' l1 l2 l1' l2' l3 l4 IH sd sd';go_enter func18,ntmps18;by_cases g1:k=k'
 ·subst g1
  have e1:(k==k)=true:=by simp
  by_cases g2:i=i'
  ·subst g2
   have e2:(i==i)=true:=(by simp);by_cases g3:u=u'
   ·subst g3
    have e3:(u==u)=true:=(by simp);replace HE:Hid ((V1 && (V2 && V3))=V):=hid (by have:=HE.out;simpa using this);go_wp2_with fail
    generalize ((w.alloc (W8 (.bool neg) (.slice A n c) (.slice B m e) (.int .i64 k) (.bool i) (.int .u64 u) (.slice P p r) (.slice Q q s))).alloc (W8 (.bool neg') (.slice A' n' c') (.slice B' m' e') (.int .i64 k) (.bool i) (.int .u64 u) (.slice P' p' r') (.slice Q' q' s')))=W0 at*
    refine HC1.out.mono ?_;rintro e w1 ⟨rfl,hb1⟩;replace hb0:=bt hb0 hb1;replace c1:=c1.below hb1 c1.lt;replace c2:=c2.below hb1 c2.lt;clear hb1 HC1;cases V1
    ·replace HE:Hid (false=V):=HE
     go_wp2_with fail
     have:=HE.out;subst this;go_ret;exact⟨rfl,hb0⟩
    ·replace HE:Hid ((V2 && V3)=V):=HE
     obtain⟨a0,a1,a2,a3,a4,a5,a6,a7⟩:=c1.c8;obtain⟨b0,b1,b2,b3,b4,b5,b6,b7⟩:=c2.c8;go_wp2_with fail
     refine(HC2.out _ hb0).mono ?_;rintro e w2 ⟨rfl,hb1⟩;replace hb0:=bt hb0 hb1;replace c1:=c1.below hb1 c1.lt;replace c2:=c2.below hb1 c2.lt;clear hb1 HC2 a0 a1 a2 a3 a4 a5 a6 a7 b0 b1 b2 b3 b4 b5 b6 b7;cases V2
     ·replace HE:Hid (false=V):=HE
      go_wp2_with fail
      have:=HE.out;subst this;go_ret;exact⟨rfl,hb0⟩
     ·replace HE:Hid (V3=V):=HE
      obtain⟨a0,a1,a2,a3,a4,a5,a6,a7⟩:=c1.c8;obtain⟨b0,b1,b2,b3,b4,b5,b6,b7⟩:=c2.c8;go_wp2_with fail
      refine(HC3.out _ hb0).mono ?_;rintro e w3 ⟨rfl,hb1⟩;replace hb0:=bt hb0 hb1;go_wp2_with fail
      have:=HE.out;subst this;go_ret;exact⟨rfl,hb0⟩
   ·have e3:(u==u')=false:=by simpa using g3
    replace HE:Hid (false=V):=hid (by have:=HE.out;simpa [g3] using this);clear g3;go_wp2_with fail
    have:=HE.out;subst this;go_ret;exact⟨rfl,hb0⟩
  ·have e2:(i==i')=false:=by simpa using g2
   replace HE:Hid (false=V):=hid (by have:=HE.out;simpa [g2] using this);clear g2;go_wp2_with fail
   have:=HE.out;subst this;go_ret;exact⟨rfl,hb0⟩
 ·have e1:(k==k')=false:=by simpa using g1
  replace HE:Hid (false=V):=hid (by have:=HE.out;simpa [g1] using this);clear g1;go_wp2_with fail
  have:=HE.out;subst this;go_ret;exact⟨rfl,hb0⟩
theorem Qs6:∀(N:Nat) (d d':WD),SizeOf.sizeOf d<=N->SzE d->SzE d'->EqOk d d'
 |0,d,_,h,_,_=>by cases d;simp only [WD.mk.sizeOf_spec]at h;omega
 |N+1,d,d',h,sd,sd'=>Qqa d d' sd sd' (fun j x y hx hy=>Qs6 N x y (by have:=WD.parts_lt (List.mem_of_getElem? hx);omega) (sd.open.2.2.2.2.2 x (List.mem_of_getElem? hx)) (sd'.open.2.2.2.2.2 y (List.mem_of_getElem? hy)))
theorem Qlp(d d':WD)(x y:List Value)(w:World)(V:Bool)(hx:WRd w x d)(hy:WRd w y d')(sd:SzE d)(sd':SzE d')(H:Hid (eqD d d'=V)):Calls prog 18 #[.agg x.toArray,.agg y.toArray] w (RetV w (.bool V)):=
 Qs6 _ d d' (le_refl _) sd sd' x y w V hx hy H
noncomputable def tv(p:Prop):Bool:= @decide p (Classical.propDecidable _)
theorem Qce{p:Prop}:tv p=true↔p:= @decide_eq_true_iff _ (Classical.propDecidable _)
theorem Qbf{p:Prop}(h:p):tv p=true:=Qce.2 h
theorem Qag{p:Prop}(h:¬p):tv p=false:=by
 rw [Bool.eq_false_iff];exact fun hh=>h (Qce.1 hh)
theorem Qkb{p q:Prop}(h:p↔q):tv p=tv q:=by rw [propext h]
theorem Qlq{d e:WD}{p:Prop}(h:p↔d=e):eqD d e=tv p:=by
 rw [Bool.eq_iff_iff,Qfc,Qce,h]
theorem Qjc(p q:Prop):tv (p/\q)=(tv p && tv q):=by
 rw [Bool.eq_iff_iff,Qce,Bool.and_eq_true,Qce,Qce]
theorem Qh0:SzE blankD:=.mk (zero_le _) (zero_le _) (zero_le _) (fun m h=>by cases h) (zero_le _) (fun m h=>by cases h)
theorem Qea(w:World):WRd w [.bool false,.slice none 0 0,.slice none 0 0,.int .i64 0,.bool false,.int .u64 0,.slice none 0 0,.slice none 0 0] blankD:=
 WRd.made (Num.nil ..) (Num.nil ..) (PRaw.nil ..) (WPs.nil ..)
theorem Qdb(d:WD)(x:List Value)(w:World)(V:Bool)(hx:WRd w x d)(sd:SzE d)(H:Hid (eqD d blankD=V)):Calls prog 168 #[.agg x.toArray] w (RetV w (.bool V)):=by
 obtain⟨A,n,c,B,m,e,P,p,r,Q,q,s,rfl,_⟩:=hx.shape;obtain⟨hb0,c1⟩:=blk1 w [.bool d.neg,.slice A n c,.slice B m e,.int .i64 d.c,.bool d.i,.int .u64 d.s,.slice P p r,.slice Q q s] 32;have HC:=hid (Qlp d blankD _ _ _ V (hx.keep hb0) (Qea _) sd Qh0 H);clear hx H;go_enter func168,ntmps168;go_wp2_with fail
 refine HC.out.mono ?_;rintro e w1 ⟨rfl,hb1⟩;go_wp2_with fail
 go_ret;exact⟨rfl,bt hb0 hb1⟩
theorem SzD.noQ{L M:Nat}{d:WD}(h:SzD L M d):SzD L M (.mk false [] [] d.c d.i d.s d.poly d.parts):=by
 obtain⟨_,_,h3,h4,h5,h6⟩:=h.open;exact .mk (zero_le _) (zero_le _) h3 h4 h5 h6
theorem SzD.noP{L M:Nat}{d:WD}(h:SzD L M d):SzD L M (.mk d.neg d.ln d.ld d.c d.i d.s [] d.parts):=by
 obtain⟨h1,h2,h3,h4,h5,h6⟩:=h.open;exact .mk h1 h2 (zero_le _) (fun m h=>by cases h) h5 h6
theorem SzD.other{L M:Nat}{d:WD}(h:SzD L M d)(k:Int)(i:Bool)(s:Int):SzD L M (.mk d.neg d.ln d.ld k i s d.poly d.parts):=by
 obtain⟨h1,h2,h3,h4,h5,h6⟩:=h.open;exact .mk h1 h2 h3 h4 h5 h6
theorem SzD.noW{L M:Nat}{d:WD}(h:SzD L M d):SzD L M (.mk d.neg d.ln d.ld d.c d.i d.s d.poly []):=by
 obtain⟨h1,h2,h3,h4,h5,h6⟩:=h.open;exact .mk h1 h2 h3 h4 (zero_le _) (fun m h=>by cases h)
theorem Qbl(d:WD)(x:List Value)(w:World)(V:Bool)(hx:WRd w x d)(sd:SzE d)(H:Hid (tv d.onlyQ=V)):Calls prog 159 #[.agg x.toArray] w (RetV w (.bool V)):=by
 obtain⟨A,n,c,B,m,e,P,p,r,Q,q,s,rfl,h1,h2,h3,h4⟩:=hx.shape;obtain⟨h0,_⟩:=blk1 w [.bool false,.slice none 0 0,.slice none 0 0,.int .i64 d.c,.bool d.i,.int .u64 d.s,.slice P p r,.slice Q q s] 32;have HC:=hid (Qdb _ _ _ V (WRd.made (neg:=false) (k:=d.c) (i:=d.i) (s:=d.s) (Num.nil _ none 0) (Num.nil _ none 0) (h3.below h0) (h4.below h0)) sd.noQ (hid ((Qlq (Qsz d)).trans H.out)));clear hx H h1 h2 h3 h4;go_enter func159,ntmps159;go_wp2_with fail
 refine HC.out.mono ?_;rintro e w1 ⟨rfl,hb1⟩;go_wp2_with fail
 go_ret;exact⟨rfl,bt h0 hb1⟩
theorem Qct(d:WD)(x:List Value)(w:World)(V:Bool)(hx:WRd w x d)(sd:SzE d)(H:Hid (tv d.onlyP=V)):Calls prog 146 #[.agg x.toArray] w (RetV w (.bool V)):=by
 obtain⟨A,n,c,B,m,e,P,p,r,Q,q,s,rfl,h1,h2,h3,h4⟩:=hx.shape;obtain⟨h0,_⟩:=blk1 w [.bool d.neg,.slice A n c,.slice B m e,.int .i64 d.c,.bool d.i,.int .u64 d.s,.slice none 0 0,.slice Q q s] 32;have HC:=hid (Qdb _ _ _ V (WRd.made (neg:=d.neg) (k:=d.c) (i:=d.i) (s:=d.s) (h1.below h0) (h2.below h0) (PRaw.nil _ none 0) (h4.below h0)) sd.noP (hid ((Qlq (Qs0 d)).trans H.out)));clear hx H h1 h2 h3 h4;go_enter func146,ntmps146;go_wp2_with fail
 refine HC.out.mono ?_;rintro e w1 ⟨rfl,hb1⟩;go_wp2_with fail
 go_ret;exact⟨rfl,bt h0 hb1⟩
theorem Qlr(d:WD)(x:List Value)(w:World)(V:Bool)(hx:WRd w x d)(sd:SzE d)(H:Hid (tv d.onlyS=V)):Calls prog 139 #[.agg x.toArray] w (RetV w (.bool V)):=by
 obtain⟨A,n,c,B,m,e,P,p,r,Q,q,s,rfl,h1,h2,h3,h4⟩:=hx.shape;obtain⟨h0,_⟩:=blk1 w [.bool d.neg,.slice A n c,.slice B m e,.int .i64 d.c,.bool d.i,.int .u64 0,.slice P p r,.slice Q q s] 32;have HC:=hid (Qdb _ _ _ V (WRd.made (neg:=d.neg) (k:=d.c) (i:=d.i) (s:=0) (h1.below h0) (h2.below h0) (h3.below h0) (h4.below h0)) (sd.other _ _ _) (hid ((Qlq (Qs1 d)).trans H.out)));clear hx H h1 h2 h3 h4;go_enter func139,ntmps139;go_wp2_with fail
 refine HC.out.mono ?_;rintro e w1 ⟨rfl,hb1⟩;go_wp2_with fail
 go_ret;exact⟨rfl,bt h0 hb1⟩
theorem Qkc(d:WD)(x:List Value)(w:World)(V:Bool)(hx:WRd w x d)(sd:SzE d)(H:Hid (tv (chk 2 d)=V)):Calls prog 120 #[.agg x.toArray] w (RetV w (.bool V)):=by
 obtain⟨A,n,c,B,m,e,P,p,r,Q,q,s,rfl,h1,h2,h3,h4⟩:=hx.shape;clear hx;cases hi:d.i
 ·obtain⟨h0,_⟩:=blk1 w [.bool d.neg,.slice A n c,.slice B m e,.int .i64 0,.bool false,.int .u64 d.s,.slice P p r,.slice Q q s] 32
  obtain⟨V1,hV1⟩:∃V1,eqD (WD.mk d.neg d.ln d.ld 0 false d.s d.poly d.parts) blankD=V1:=⟨_,rfl⟩;have HE:Hid ((V1 && (decide (0<=d.c) && decide (d.c<=1099511627776)))=V):=hid (by
   rw [<-H.out,Qkb (Qs4 hi),hi,Qjc,Qjc,<-hV1]
   congr 1
   congr 1
   ·by_cases h:0<=d.c
    ·rw [Qbf h,decide_eq_true h]
    ·rw [Qag h,decide_eq_false h]
   ·by_cases h:d.c<=topCost
    ·rw [Qbf h,decide_eq_true h]
    ·rw [Qag h,decide_eq_false h])
  have HC:=hid (Qdb _ _ _ V1 (WRd.made (neg:=d.neg) (k:=0) (i:=false) (s:=d.s) (h1.below h0) (h2.below h0) (h3.below h0) (h4.below h0)) (sd.other _ _ _) (hid hV1));clear hV1 H h1 h2 h3 h4;go_enter func120,ntmps120;go_wp2_with fail
  refine HC.out.mono ?_;rintro e w1 ⟨rfl,hb1⟩;cases V1
  ·replace HE:Hid (false=V):=HE
   go_wp2_with fail
   have:=HE.out;subst this;go_ret;exact⟨rfl,bt h0 hb1⟩
  ·by_cases g1:0<=d.c
   ·by_cases g2:d.c<=1099511627776
    ·replace HE:Hid (true=V):=hid (by have:=HE.out;simpa [g1,g2] using this)
     go_wp2_with fail
     have:=HE.out;subst this;go_ret;exact⟨rfl,bt h0 hb1⟩
    ·replace HE:Hid (false=V):=hid (by have:=HE.out;simpa [g1,g2] using this)
     go_wp2_with fail
     have:=HE.out;subst this;go_ret;exact⟨Qal (decide_eq_false (by omega)),bt h0 hb1⟩
   ·replace HE:Hid (false=V):=hid (by have:=HE.out;simpa [g1] using this)
    go_wp2_with fail
    have:=HE.out;subst this;go_ret;exact⟨rfl,bt h0 hb1⟩
 ·obtain⟨h0,_⟩:=blk1 w [.bool d.neg,.slice A n c,.slice B m e,.int .i64 d.c,.bool false,.int .u64 d.s,.slice P p r,.slice Q q s] 32
  have HC:=hid (Qdb _ _ _ V (WRd.made (neg:=d.neg) (k:=d.c) (i:=false) (s:=d.s) (h1.below h0) (h2.below h0) (h3.below h0) (h4.below h0)) (sd.other _ _ _) (hid ((Qlq (Qs3 hi)).trans H.out)));clear H h1 h2 h3 h4;go_enter func120,ntmps120;go_wp2_with fail
  refine HC.out.mono ?_;rintro e w1 ⟨rfl,hb1⟩;go_wp2_with fail
  go_ret;exact⟨rfl,bt h0 hb1⟩
def IsWB(w:World)(b:Nat):Prop:=∃cells t,Cs w b cells t/\WBlk cells
structure Wch (B S:Nat) (w w':World):Prop where
 os:w'.os=w.os
 tape:w'.tape=w.tape
 output:w'.output=w.output
 size:w.heap.size<=w'.heap.size
 block:∀b,b<w.heap.size->w'.heap[b]? =w.heap[b]? \/(B<=b/\b<S/\IsWB w b)
theorem Wch.mono{B S B' S':Nat}{w w':World}(h:Wch B S w w')(hB:B'<=B)(hS:S<=S'):Wch B' S' w w':=
 ⟨h.os,h.tape,h.output,h.size,fun b hb=>(h.block b hb).imp id fun⟨h1,h2,h3⟩=>⟨le_trans hB h1,lt_of_lt_of_le h2 hS,h3⟩⟩
theorem Wch.of_below{B S:Nat}{w w':World}(h:Below w.heap.size w w'):Wch B S w w':=⟨h.os,h.tape,h.output,h.size,fun b hb=> .inl (h.block b hb)⟩
theorem Wch.trans{B S:Nat}{a b c:World}(h:Wch B S a b)(k:Wch B S b c):Wch B S a c:=
 ⟨k.os.trans h.os,k.tape.trans h.tape,k.output.trans h.output,le_trans h.size k.size,fun i hi=>by
  rcases h.block i hi with h1|h1
  ·rcases k.block i (lt_of_lt_of_le hi h.size)with k1|⟨k1,k2,cells,t,k3,k4⟩
   ·exact .inl (k1.trans h1)
   ·exact .inr ⟨k1,k2,cells,t,h1.symm.trans k3,k4⟩
  ·exact .inr h1⟩
theorem Wch.below{B S:Nat}{w w':World}(h:Wch B S w w')(hB:B<=w.heap.size):Below B w w':=
 ⟨h.os,h.tape,h.output,h.size,fun b hb=>(h.block b (lt_of_lt_of_le hb hB)).resolve_right fun⟨h1,_⟩=>by omega⟩
theorem Qkd{l:List Value}(h:isW8 l):WBlk l:=⟨[l],by simp,fun x hx=>by simp at hx;rw [hx];exact h⟩
theorem Wch.set{B S g:Nat}{w:World}{l:List Value}{t:TypeId}(hc:Cs w g l t)(hb:WBlk l)(h1:B<=g)(h2:g<S)(k:Nat)(u:Value):Wch B S w (w.setCell ⟨g,k,none⟩ u):=
 ⟨rfl,rfl,rfl,by simp,fun b _=>by
  by_cases e:b=g
  ·subst e;exact .inr ⟨h1,h2,l,t,hc,hb⟩
  ·exact .inl (Below.heap_setCell w ⟨g,k,none⟩ u b e)⟩
theorem Wch.setL{B S g:Nat}{w:World}{l:List Value}{t:TypeId}(hc:Cs w g l t)(hb:WBlk l)(h1:B<=g)(h2:g<S):∀(us:List Value) (k:Nat) (W:World),(∀b,b<w.heap.size->b≠g->W.heap[b]? =w.heap[b]?)->w.heap.size<=W.heap.size->W.os=w.os->W.tape=w.tape->W.output=w.output->Wch B S w (Go.Proofs.YthbhgelncdnmgaaGreatDoor.setL W g k us)
 |[],_,W,hk,hs,e1,e2,e3=>⟨e1,e2,e3,hs,fun b hlt=>by
  by_cases e:b=g
  ·subst e;exact .inr ⟨h1,h2,l,t,hc,hb⟩
  ·exact .inl (hk b hlt e)⟩
 |u::us,k,W,hk,hs,e1,e2,e3=>Wch.setL hc hb h1 h2 us (k+1) (W.setCell ⟨g,k,none⟩ u) (fun b hlt hne=>(Below.heap_setCell W ⟨g,k,none⟩ u b hne).trans (hk b hlt hne)) (by simpa using hs) e1 e2 e3
theorem Wch.s8{B S g:Nat}{w:World}{l:List Value}{t:TypeId}(hc:Cs w g l t)(hb:WBlk l)(h1:B<=g)(h2:g<S)(u0 u1 u2 u3 u4 u5 u6 u7:Value):
 Wch B S w ((((((((w.setCell ⟨g,0,none⟩ u0).setCell ⟨g,1,none⟩ u1).setCell ⟨g,2,none⟩ u2).setCell ⟨g,3,none⟩ u3).setCell ⟨g,4,none⟩ u4).setCell ⟨g,5,none⟩ u5).setCell ⟨g,6,none⟩ u6).setCell ⟨g,7,none⟩ u7):=
 Wch.setL hc hb h1 h2 [u0,u1,u2,u3,u4,u5,u6,u7] 0 w (fun _ _ _=>rfl) (le_refl _) rfl rfl rfl
theorem Num.wch{w w':World}{B S:Nat}{l:List Nat}{A:Option Addr}{n c:Nat}(h:Num w l A n c)(hw:Wch B S w w'):Num w' l A n c:=by
 refine⟨h.len,h.cap,h.lim,fun hn=>?_⟩;obtain⟨b,o,rfl,hlt,hx⟩:=h.cells hn;refine⟨b,o,rfl,lt_of_lt_of_le hlt hw.size,fun k x hk=>?_⟩;rcases hw.block b hlt with e|⟨_,_,cells,t,hc,hb⟩
 ·exact(World.cell?_of_block (w:=w) e).trans (hx k x hk)
 ·exact absurd rfl (h.ne_cs hc hb.u32 hn _ rfl)
theorem Fld.wch{w w':World}{B S:Nat}{v:Value}{neg:Bool}{ln ld:List Nat}(h:Fld w v neg ln ld)(hw:Wch B S w w'):Fld w' v neg ln ld:=by
 obtain⟨A,n,c,A',m,c',e,h1,h2⟩:=h.out;exact⟨A,n,c,A',m,c',e,h1.wch hw,h2.wch hw⟩
theorem PRaw.wch{w w':World}{B S:Nat}{A:Option Addr}{n c:Nat}{l:List FldM}(h:PRaw w A n c l)(hw:Wch B S w w'):PRaw w' A n c l:=by
 obtain⟨xs,h1,h2,h3⟩:=h.out;refine⟨xs,⟨h1.len,h1.cap,fun hn=>?_⟩,h2,fun i m hm=>?_⟩
 ·obtain⟨b,o,rfl,hlt,hx⟩:=h1.cells hn
  refine⟨b,o,rfl,lt_of_lt_of_le hlt hw.size,fun i x hi j v hj=>?_⟩;rcases hw.block b hlt with e|⟨_,_,cells,t,hc,hb⟩
  ·exact(World.cell?_of_block (w:=w) e).trans (hx i x hi j v hj)
  ·exfalso
   have h0:0<l.length:=(by have:=h1.len;omega);obtain⟨z0,z1,z2,e1,_⟩:=h3 0 l[0] (List.getElem?_eq_getElem h0);have c0:=hx 0 _ e1 0 _ rfl;have c1:=hx 0 _ e1 1 _ rfl;unfold Cs at hc;rw [cell_of_row w b _ _ _ _ hc,List.getElem?_toArray]at c0 c1;have k0:=hb.i64 c0;have k1:=hb.i64 c1;omega
 ·obtain⟨z0,z1,z2,e1,e2⟩:=h3 i m hm
  exact⟨z0,z1,z2,e1,e2.wch hw⟩
def WSt(B S:Nat)(w:World)(l:List Value)(d:WD):Prop:=∀w',Wch B S w w'->WRd w' l d
theorem WSt.rd{B S:Nat}{w:World}{l:List Value}{d:WD}(h:WSt B S w l d):WRd w l d:=h w (Wch.of_below (Below.refl _ _))
theorem WSt.step{B S:Nat}{w w':World}{l:List Value}{d:WD}(h:WSt B S w l d)(hw:Wch B S w w'):WSt B S w' l d:=fun w2 h2=>h w2 (hw.trans h2)
theorem WSt.mono{B S B' S':Nat}{w:World}{l:List Value}{d:WD}(h:WSt B S w l d)(hB:B<=B')(hS:S'<=S):WSt B' S' w l d:=fun w2 h2=>h w2 (h2.mono hB hS)
theorem WRd.wst{B S:Nat}{w:World}{l:List Value}{d:WD}(h:WRd w l d)(hp:d.parts=[]):WSt B S w l d:=by
 intro w' hw;obtain⟨q0,q1,q2,Ap,np,cp,Aw,nw,cw,rfl,hq,hpo,hws⟩:=h.open;have hn:=hws.len;rw [hp]at hn hws;obtain rfl:nw=0:=hn;have e:=WD.eta d;rw [hp]at e;rw [e];exact WRd.close (hq.wch hw) (hpo.wch hw) (WPs.nil _ _ _)
theorem WRd.wold{S:Nat}{wa w:World}{l:List Value}{d:WD}(h:WRd wa l d)(hb:Below wa.heap.size wa w):WSt wa.heap.size S w l d:=
 fun _ hw=>h.keep (hb.trans (hw.below hb.size))
def RetX(B:Nat)(w0:World)(d:WD)(e:Ending)(w':World):Prop:=∃l:List Value,e=.returned (.agg l.toArray)/\WSt B w0.heap.size w' l d/\Below w0.heap.size w0 w'
def Ent(n:Nat):Prop:=∀args w,(callFunc n args).run prog w=.ok (.enter n args) w
theorem Qaz{n:Nat}{fn:Func}{c:Code}(hf:prog.funcs[n]? =some fn)(hname:(fn.name== "runtime.NumGoroutine")=false)(hb:fn.body=some c):Ent n:=by
 intro args w;have h1:fn.name≠ "runtime.NumGoroutine" :=by simpa using hname
 simp [callFunc,hf,h1,hb]
def Fn(w:World)(v:Value)(Q:World->Array Value->(Ending->World->Prop)->Prop):Prop:=
 ∃n A,v=.func (.func n) #[] A/\Ent n/\∀w',Below w.heap.size w w'->∀args R,Q w' args R->Calls prog n (args++A) w' R
theorem Fn.below{w w':World}{v:Value}{Q:World->Array Value->(Ending->World->Prop)->Prop}(h:Fn w v Q)(hb:Below w.heap.size w w'):Fn w' v Q:=by
 obtain⟨n,A,e,he,h⟩:=h;exact⟨n,A,e,he,fun w2 h2=>h w2 (bt hb h2)⟩
theorem Fn.mono{w:World}{v:Value}{Q Q':World->Array Value->(Ending->World->Prop)->Prop}(h:Fn w v Q)(hq:∀w' args R,Q' w' args R->Q w' args R):Fn w v Q':=by
 obtain⟨n,A,e,he,h⟩:=h;exact⟨n,A,e,he,fun w2 h2 args R hR=>h w2 h2 args R (hq _ _ _ hR)⟩
theorem Fn.plain{w:World}{n:Nat}{Q:World->Array Value->(Ending->World->Prop)->Prop}(he:Ent n)(h:∀w',∀args R,Q w' args R->Calls prog n args w' R):Fn w (fv n) Q:=
 ⟨n,#[],rfl,he,fun w' _ args R hR=>by rw [Array.append_empty];exact h w' args R hR⟩
abbrev SzK(d:WD):Prop:=SzD 1000 1000 d
theorem SzD.sze{d:WD}(h:SzK d):SzE d:=h.up (by decide) (by decide)
def QChk(P:WD->Prop)(w:World)(args:Array Value)(R:Ending->World->Prop):Prop:=∃x d V,args=#[.agg x.toArray]/\Tab w/\WRd w x d/\SzK d/\Hid (tv (P d)=V)/\R=RetV w (.bool V)
def QMake(z:WD)(w:World)(args:Array Value)(R:Ending->World->Prop):Prop:=args=#[]/\Tab w/\R=RetX 0 w z
def QClean(f:WD->WD)(w:World)(args:Array Value)(R:Ending->World->Prop):Prop:=∃x d wa,args=#[.agg x.toArray]/\Tab w/\WRd wa x d/\Below wa.heap.size wa w/\SzK d/\R=RetX wa.heap.size w (f d)
def QBin(P:WD->Prop)(f:WD->WD->WD)(w:World)(args:Array Value)(R:Ending->World->Prop):Prop:=∃x y d e,args=#[.agg x.toArray,.agg y.toArray]/\Tab w/\WRd w x d/\WRd w y e/\SzK d/\SzK e/\P d/\P e/\bits d/\bits e/\R=RetX 0 w (f d e)
def QRl(P:WD->Prop)(f:WD->WD->Bool)(w:World)(args:Array Value)(R:Ending->World->Prop):Prop:=∃x y d e V,args=#[.agg x.toArray,.agg y.toArray]/\Tab w/\WRd w x d/\WRd w y e/\SzK d/\SzK e/\P d/\P e/\bits d/\bits e/\Hid (f d e=V)/\R=RetV w (.bool V)
theorem Qbi:WBlk [.bool false,.slice none 0 0,.slice none 0 0,.int .i64 0,.bool false,.int .u64 0,.slice none 0 0,.slice none 0 0]:=Qkd ⟨_,_,_,_,_,_,_,_,_,_,_,_,_,_,_,_,rfl⟩
noncomputable def clean1(P:WD->Prop)(z d:WD):WD:=cond (tv (P d)) d z
theorem Qls(P:WD->Prop)(z d:WD)(f g:Value)(b1 b2:Nat)(x:List Value)(wa w:World)(hT:Tab w)(hx:WRd wa x d)(hwa:Below wa.heap.size wa w)(sd:SzK d)(hC:Cl w b1 b2 f g)(hf:Fn w f (QChk P))(hg:Fn w g (QMake z)):
 Calls prog 169 #[.agg x.toArray,.pointer (some ⟨b1,0,none⟩),.pointer (some ⟨b2,0,none⟩)] w (RetX wa.heap.size w (clean1 P z d)):=by
 obtain⟨nf,Af,rfl,ef,hf⟩:=hf;obtain⟨ng,Ag,rfl,eg,hg⟩:=hg;unfold Ent at ef eg;obtain⟨A,n,c,B,m,e,Pp,p,r,Q,q,s,rfl,_⟩:=hx.shape;show Calls _ _ #[.agg #[.bool d.neg,.slice A n c,.slice B m e,.int .i64 d.c,.bool d.i,.int .u64 d.s,.slice Pp p r,.slice Q q s],_,_] _ _;obtain⟨hb0,c1,c2⟩:=blk2 w [.bool d.neg,.slice A n c,.slice B m e,.int .i64 d.c,.bool d.i,.int .u64 d.s,.slice Pp p r,.slice Q q s] [.bool false,.slice none 0 0,.slice none 0 0,.int .i64 0,.bool false,.int .u64 0,.slice none 0 0,.slice none 0 0] 32 32;obtain⟨V,hV⟩:∃V,tv (P d)=V:=⟨_,rfl⟩;have hR:clean1 P z d=cond V d z:=by unfold clean1;rw [hV]
 rw [hR];clear hR;have HV:=hid hV;have HX:=hid hx;have HA:=hid hwa;have HF:=hid hf;have HG:=hid hg;have HT:=hid hT;have k1:=(hC.below hb0).1.cell (k:=0) rfl;have C2:=hid (hC.below hb0);clear hV hx hwa hf hg hT hC;go_enter func169,ntmps169;go_wp2_with fail
 generalize ((w.alloc (W8 (.bool d.neg) (.slice A n c) (.slice B m e) (.int .i64 d.c) (.bool d.i) (.int .u64 d.s) (.slice Pp p r) (.slice Q q s))).alloc (W8t 0 false))=W0 at*
 refine(HF.out _ hb0 _ _ ⟨_,d,V,rfl,HT.out.below hb0,HX.out.keep (bt HA.out hb0),sd,HV,rfl⟩).mono ?_;rintro e1 w1 ⟨rfl,hb1⟩;replace hb0:=bt hb0 hb1;replace c1:=c1.below hb1 c1.lt;replace c2:=c2.below hb1 c2.lt;have C3:=hid (C2.out.below hb1);clear hb1 C2 k1;obtain⟨g0,g1,g2,g3,g4,g5,g6,g7⟩:=c2.f8;obtain⟨e0,e1,e2,e3,e4,e5,e6,e7⟩:=c2.c8;have HS1:=hid c2.lt;cases V
 ·have k2:=C3.out.2.cell (k:=0) rfl
  go_wp2_with fail
  clear e0 e1 e2 e3 e4 e5 e6 e7 g0 g1 g2 g3 g4 g5 g6 g7;have HZ:=HG.out _ hb0 #[] _ ⟨rfl,HT.out.below hb0,rfl⟩;rw [Array.empty_append]at HZ;refine HZ.mono ?_;rintro e1 w2 ⟨l,rfl,hl,hb1⟩;obtain⟨A',n',c',B',m',e',P',p',r',Q',q',s',rfl,_⟩:=hl.rd.shape;replace hb0:=bt hb0 hb1;replace c2:=c2.below hb1 c2.lt;have HL:=hid hl;clear hb1 hl;obtain⟨g0,g1,g2,g3,g4,g5,g6,g7⟩:=c2.f8;obtain⟨e0,e1,e2,e3,e4,e5,e6,e7⟩:=c2.c8;go_wp2_with fail
  refine Qak (l:=[.bool z.neg,.slice A' n' c',.slice B' m' e',.int .i64 z.c,.bool z.i,.int .u64 z.s,.slice P' p' r',.slice Q' q' s']) results169 underlying32 (by kernel_rfl) rfl (Qaj c2 rfl _ _ _ _ _ _ _ _) rfl ?_;exact⟨_,rfl,((HL.out.step (Wch.s8 c2 Qbi (zero_le _) HS1.out _ _ _ _ _ _ _ _)).mono (zero_le _) (by have:=HS1.out;omega)),Qam hb0 (by omega) _ _ _ _ _ _ _ _⟩
 ·obtain⟨a0,a1,a2,a3,a4,a5,a6,a7⟩:=c1.c8
  go_wp2_with fail
  refine Qak (l:=[.bool d.neg,.slice A n c,.slice B m e,.int .i64 d.c,.bool d.i,.int .u64 d.s,.slice Pp p r,.slice Q q s]) results169 underlying32 (by kernel_rfl) rfl (Qaj c2 rfl _ _ _ _ _ _ _ _) rfl ?_;exact⟨_,rfl,HX.out.wold (HA.out.trans ((Qam hb0 (by omega) _ _ _ _ _ _ _ _).mono HA.out.size)),Qam hb0 (by omega) _ _ _ _ _ _ _ _⟩
theorem Qvn:dOf svZ=blankD:=by
 unfold dOf blankD;show WD.mk _ (limbs 0) _ _ _ _ _ _=_;rw [Qaf];rfl
theorem dOf_C(c:Int)(i:Bool):dOf (svC c i)=.mk false [] [] c i 0 [] []:=by
 unfold dOf;show WD.mk _ (limbs 0) _ _ _ _ _ _=_;rw [Qaf];rfl
theorem dOf_S(s:Nat):dOf (svS s)=.mk false [] [] 0 false s [] []:=by
 unfold dOf;show WD.mk _ (limbs 0) _ _ _ _ _ _=_;rw [Qaf];rfl
theorem Qgk(w:World)(c:Int)(i:Bool):WRd w [.bool false,.slice none 0 0,.slice none 0 0,.int .i64 c,.bool i,.int .u64 0,.slice none 0 0,.slice none 0 0] (dOf (svC c i)):=by
 rw [dOf_C];exact WRd.made (Num.nil ..) (Num.nil ..) (PRaw.nil ..) (WPs.nil ..)
theorem Qvo(w:World)(s:Nat):WRd w [.bool false,.slice none 0 0,.slice none 0 0,.int .i64 0,.bool false,.int .u64 (s:Int),.slice none 0 0,.slice none 0 0] (dOf (svS s)):=by
 rw [dOf_S];exact WRd.made (Num.nil ..) (Num.nil ..) (PRaw.nil ..) (WPs.nil ..)
theorem Qb8{w0 w:World}{l:List Value}{a:SV}(h:WRd w l (dOf a))(hb:Below w0.heap.size w0 w):RetX 0 w0 (dOf a) (.returned (.agg l.toArray)) w:=⟨l,rfl,h.wst rfl,hb⟩
theorem Qke(w:World):Calls prog 121 #[] w (RetX 0 w (dOf (svC 0 false))):=by
 obtain⟨hb0,c1⟩:=blk1 w [.bool false,.slice none 0 0,.slice none 0 0,.int .i64 0,.bool false,.int .u64 0,.slice none 0 0,.slice none 0 0] 32;go_enter func121,ntmps121;go_wp2_with fail
 refine Qak (l:=[.bool false,.slice none 0 0,.slice none 0 0,.int .i64 0,.bool false,.int .u64 0,.slice none 0 0,.slice none 0 0]) results121 underlying32 (by kernel_rfl) rfl (c1) rfl ?_;exact Qb8 (Qgk _ 0 false) hb0
theorem Qvp(w:World):Calls prog 119 #[] w (RetX 0 w (dOf (svC 0 true))):=by
 obtain⟨hb0,c1⟩:=blk1 w [.bool false,.slice none 0 0,.slice none 0 0,.int .i64 0,.bool true,.int .u64 0,.slice none 0 0,.slice none 0 0] 32;go_enter func119,ntmps119;go_wp2_with fail
 refine Qak (l:=[.bool false,.slice none 0 0,.slice none 0 0,.int .i64 0,.bool true,.int .u64 0,.slice none 0 0,.slice none 0 0]) results119 underlying32 (by kernel_rfl) rfl (c1) rfl ?_;exact Qb8 (Qgk _ 0 true) hb0
theorem Qyi(w:World):Calls prog 138 #[] w (RetX 0 w (dOf (svS allBits))):=by
 obtain⟨hb0,c1⟩:=blk1 w [.bool false,.slice none 0 0,.slice none 0 0,.int .i64 0,.bool false,.int .u64 18446744073709551615,.slice none 0 0,.slice none 0 0] 32;go_enter func138,ntmps138;go_wp2_with fail
 refine Qak (l:=[.bool false,.slice none 0 0,.slice none 0 0,.int .i64 0,.bool false,.int .u64 18446744073709551615,.slice none 0 0,.slice none 0 0]) results138 underlying32 (by kernel_rfl) rfl (c1) rfl ?_;exact Qb8 (Qvo _ 18446744073709551615) hb0
theorem Qdr(d d2:WD)(x y:List Value)(w:World)(hx:WRd w x d)(hy:WRd w y d2):Calls prog 106 #[.agg x.toArray,.agg y.toArray] w (RetV w (.bool false)):=by
 obtain⟨A,n,c,B,m,e,P,p,r,Q,q,s,rfl,_⟩:=hx.shape;obtain⟨A',n',c',B',m',e',P',p',r',Q',q',s',rfl,_⟩:=hy.shape;show Calls _ _ #[.agg #[.bool d.neg,.slice A n c,.slice B m e,.int .i64 d.c,.bool d.i,.int .u64 d.s,.slice P p r,.slice Q q s],.agg #[.bool d2.neg,.slice A' n' c',.slice B' m' e',.int .i64 d2.c,.bool d2.i,.int .u64 d2.s,.slice P' p' r',.slice Q' q' s']] _ _;have hb0:=(blk2 w [.bool d.neg,.slice A n c,.slice B m e,.int .i64 d.c,.bool d.i,.int .u64 d.s,.slice P p r,.slice Q q s] [.bool d2.neg,.slice A' n' c',.slice B' m' e',.int .i64 d2.c,.bool d2.i,.int .u64 d2.s,.slice P' p' r',.slice Q' q' s'] 32 32).1;go_enter func106,ntmps106;go_wp2_with fail
 go_ret;exact⟨rfl,hb0⟩
theorem Qlt(d d2:WD)(x y:List Value)(w:World)(V:Bool)(hx:WRd w x d)(hy:WRd w y d2)(H:Hid ((!d.i && (d2.i||decide (d.c<d2.c)))=V)):Calls prog 125 #[.agg x.toArray,.agg y.toArray] w (RetV w (.bool V)):=by
 obtain⟨A,n,c,B,m,e,P,p,r,Q,q,s,rfl,_⟩:=hx.shape;obtain⟨A',n',c',B',m',e',P',p',r',Q',q',s',rfl,_⟩:=hy.shape;show Calls _ _ #[.agg #[.bool d.neg,.slice A n c,.slice B m e,.int .i64 d.c,.bool d.i,.int .u64 d.s,.slice P p r,.slice Q q s],.agg #[.bool d2.neg,.slice A' n' c',.slice B' m' e',.int .i64 d2.c,.bool d2.i,.int .u64 d2.s,.slice P' p' r',.slice Q' q' s']] _ _;obtain⟨hb0,c1,c2⟩:=blk2 w [.bool d.neg,.slice A n c,.slice B m e,.int .i64 d.c,.bool d.i,.int .u64 d.s,.slice P p r,.slice Q q s] [.bool d2.neg,.slice A' n' c',.slice B' m' e',.int .i64 d2.c,.bool d2.i,.int .u64 d2.s,.slice P' p' r',.slice Q' q' s'] 32 32;clear hx hy;generalize d.i=i at*
 generalize d2.i=j at*
 go_enter func125,ntmps125;cases i
 ·cases j
  ·by_cases hcd:d.c<d2.c
   ·have hV:=hid (show true=V by rw [<-H.out];simp [hcd])
    clear H;go_wp2_with fail
    go_ret;cases hV.out;exact⟨rfl,hb0⟩
   ·have hV:=hid (show false=V by rw [<-H.out];simp [hcd])
    clear H;go_wp2_with fail
    go_ret;cases hV.out;exact⟨rfl,hb0⟩
  ·have hV:=hid (show true=V by rw [<-H.out];rfl)
   clear H;go_wp2_with fail
   go_ret;cases hV.out;exact⟨rfl,hb0⟩
 ·have hV:=hid (show false=V by rw [<-H.out];rfl)
  clear H;go_wp2_with fail
  go_ret;cases hV.out;exact⟨rfl,hb0⟩
def lsC(d d2:WD):SV:=if(!d2.i && (d.i||decide (d2.c<d.c)))=true then svC d2.c d2.i else svC d.c d.i
def adC(d d2:WD):SV:=if(d.i||(d2.i||decide (1099511627776<d.c+d2.c)))=true then svC 0 true else svC (d.c+d2.c) false
theorem Qns(d d2:WD)(x y:List Value)(w:World)(hx:WRd w x d)(hy:WRd w y d2):Calls prog 122 #[.agg x.toArray,.agg y.toArray] w (RetX 0 w (dOf (lsC d d2))):=by
 obtain⟨A,n,c,B,m,e,P,p,r,Q,q,s,rfl,_⟩:=hx.shape;obtain⟨A',n',c',B',m',e',P',p',r',Q',q',s',rfl,_⟩:=hy.shape;show Calls _ _ #[.agg #[.bool d.neg,.slice A n c,.slice B m e,.int .i64 d.c,.bool d.i,.int .u64 d.s,.slice P p r,.slice Q q s],.agg #[.bool d2.neg,.slice A' n' c',.slice B' m' e',.int .i64 d2.c,.bool d2.i,.int .u64 d2.s,.slice P' p' r',.slice Q' q' s']] _ _;obtain⟨hb0,c1,c2,c3⟩:=blk3 w [.bool d.neg,.slice A n c,.slice B m e,.int .i64 d.c,.bool d.i,.int .u64 d.s,.slice P p r,.slice Q q s] [.bool d2.neg,.slice A' n' c',.slice B' m' e',.int .i64 d2.c,.bool d2.i,.int .u64 d2.s,.slice P' p' r',.slice Q' q' s'] [.bool false,.slice none 0 0,.slice none 0 0,.int .i64 0,.bool false,.int .u64 0,.slice none 0 0,.slice none 0 0] 32 32 32;obtain⟨V,hV⟩:∃V,(!d2.i && (d.i||decide (d2.c<d.c)))=V:=⟨_,rfl⟩;have HR:Hid (lsC d d2=if V=true then svC d2.c d2.i else svC d.c d.i):=hid (by unfold lsC;rw [hV]);have HC:=hid (Qlt d2 d _ _ _ V (hy.keep hb0) (hx.keep hb0) (hid hV));clear hx hy hV;go_enter func122,ntmps122;go_wp2_with fail
 generalize (((w.alloc (W8 (.bool d.neg) (.slice A n c) (.slice B m e) (.int .i64 d.c) (.bool d.i) (.int .u64 d.s) (.slice P p r) (.slice Q q s))).alloc (W8 (.bool d2.neg) (.slice A' n' c') (.slice B' m' e') (.int .i64 d2.c) (.bool d2.i) (.int .u64 d2.s) (.slice P' p' r') (.slice Q' q' s'))).alloc (W8t 0 false))=W0 at*
 refine HC.out.mono ?_;rintro e0 w1 ⟨rfl,hb1⟩;replace hb0:=bt hb0 hb1;replace c1:=c1.below hb1 c1.lt;replace c2:=c2.below hb1 c2.lt;replace c3:=c3.below hb1 c3.lt;clear hb1 HC;obtain⟨a0,a1,a2,a3,a4,a5,a6,a7⟩:=c1.c8;obtain⟨b0,b1,b2,b3,b4,b5,b6,b7⟩:=c2.c8;obtain⟨f0,f1,f2,f3,f4,f5,f6,f7⟩:=c1.f8;obtain⟨g0,g1,g2,g3,g4,g5,g6,g7⟩:=c3.f8;obtain⟨h0,h1,h2,h3,h4,h5,h6,h7⟩:=c3.c8;cases V
 ·go_wp2_with fail
  refine Qak (l:=[.bool false,.slice none 0 0,.slice none 0 0,.int .i64 d.c,.bool d.i,.int .u64 0,.slice none 0 0,.slice none 0 0]) results122 underlying32 (by kernel_rfl) rfl (Qaj c3 rfl _ _ _ _ _ _ _ _) rfl ?_;rw [HR.out];exact Qb8 (Qgk _ _ _) (Qam hb0 (by omega) _ _ _ _ _ _ _ _)
 ·go_wp2_with fail
  refine Qak (l:=[.bool false,.slice none 0 0,.slice none 0 0,.int .i64 d2.c,.bool d2.i,.int .u64 0,.slice none 0 0,.slice none 0 0]) results122 underlying32 (by kernel_rfl) rfl (Qaj (Qbo c3 (by omega) _ _ _ _ _ _ _ _) rfl _ _ _ _ _ _ _ _) rfl ?_;rw [HR.out];exact Qb8 (Qgk _ _ _) (Qam (Qam hb0 (by omega) _ _ _ _ _ _ _ _) (by omega) _ _ _ _ _ _ _ _)
theorem Qqb(d d2:WD)(x y:List Value)(w:World)(hx:WRd w x d)(hy:WRd w y d2)(hc:0<=d.c/\d.c<=1099511627776)(hd:0<=d2.c/\d2.c<=1099511627776):Calls prog 123 #[.agg x.toArray,.agg y.toArray] w (RetX 0 w (dOf (adC d d2))):=by
 obtain⟨A,n,c,B,m,e,P,p,r,Q,q,s,rfl,_⟩:=hx.shape;obtain⟨A',n',c',B',m',e',P',p',r',Q',q',s',rfl,_⟩:=hy.shape;show Calls _ _ #[.agg #[.bool d.neg,.slice A n c,.slice B m e,.int .i64 d.c,.bool d.i,.int .u64 d.s,.slice P p r,.slice Q q s],.agg #[.bool d2.neg,.slice A' n' c',.slice B' m' e',.int .i64 d2.c,.bool d2.i,.int .u64 d2.s,.slice P' p' r',.slice Q' q' s']] _ _;have x0:=blk3 w [.bool d.neg,.slice A n c,.slice B m e,.int .i64 d.c,.bool d.i,.int .u64 d.s,.slice P p r,.slice Q q s] [.bool d2.neg,.slice A' n' c',.slice B' m' e',.int .i64 d2.c,.bool d2.i,.int .u64 d2.s,.slice P' p' r',.slice Q' q' s'] [.bool false,.slice none 0 0,.slice none 0 0,.int .i64 (d.c+d2.c),.bool false,.int .u64 0,.slice none 0 0,.slice none 0 0] 32 32 32;have x1:=blk3 w [.bool d.neg,.slice A n c,.slice B m e,.int .i64 d.c,.bool d.i,.int .u64 d.s,.slice P p r,.slice Q q s] [.bool d2.neg,.slice A' n' c',.slice B' m' e',.int .i64 d2.c,.bool d2.i,.int .u64 d2.s,.slice P' p' r',.slice Q' q' s'] [.bool false,.slice none 0 0,.slice none 0 0,.int .i64 0,.bool true,.int .u64 0,.slice none 0 0,.slice none 0 0] 32 32 32;obtain⟨hb0,c1,c2,c3⟩:=blk3 w [.bool d.neg,.slice A n c,.slice B m e,.int .i64 d.c,.bool d.i,.int .u64 d.s,.slice P p r,.slice Q q s] [.bool d2.neg,.slice A' n' c',.slice B' m' e',.int .i64 d2.c,.bool d2.i,.int .u64 d2.s,.slice P' p' r',.slice Q' q' s'] [.bool false,.slice none 0 0,.slice none 0 0,.int .i64 0,.bool false,.int .u64 0,.slice none 0 0,.slice none 0 0] 32 32 32;obtain⟨hc0,hc1⟩:=hc;obtain⟨hd0,hd1⟩:=hd;have hsum:wrap64 (d.c+d2.c)=d.c+d2.c:=by unfold wrap64;omega
 obtain⟨S,hS⟩:∃S,adC d d2=S:=⟨_,rfl⟩;rw [hS];have hS':=hS.symm;unfold adC at hS';clear hx hy hS;have HS:=hid hS';clear hS';generalize d.i=i at*
 generalize d2.i=j at*
 go_enter func123,ntmps123;cases i
 ·cases j
  ·by_cases hcd:1099511627776<d.c+d2.c
   ·have HR:=hid (HS.out.trans (if_pos (by simp [hcd])))
    go_wp2_with fail
    refine Qak (l:=[.bool false,.slice none 0 0,.slice none 0 0,.int .i64 0,.bool true,.int .u64 0,.slice none 0 0,.slice none 0 0]) results123 underlying32 (by kernel_rfl) rfl (x1.2.2.2) rfl ?_;rw [HR.out];exact Qb8 (Qgk _ 0 true) x1.1
   ·have HR:=hid (HS.out.trans (if_neg (by simp [hcd])))
    go_wp2_with fail
    refine Qak (l:=[.bool false,.slice none 0 0,.slice none 0 0,.int .i64 (d.c+d2.c),.bool false,.int .u64 0,.slice none 0 0,.slice none 0 0]) results123 underlying32 (by kernel_rfl) rfl (x0.2.2.2) rfl ?_;rw [HR.out];exact Qb8 (Qgk _ _ false) x0.1
  ·have HR:=hid (HS.out.trans (if_pos rfl))
   go_wp2_with fail
   refine Qak (l:=[.bool false,.slice none 0 0,.slice none 0 0,.int .i64 0,.bool true,.int .u64 0,.slice none 0 0,.slice none 0 0]) results123 underlying32 (by kernel_rfl) rfl (x1.2.2.2) rfl ?_;rw [HR.out];exact Qb8 (Qgk _ 0 true) x1.1
 ·have HR:=hid (HS.out.trans (if_pos rfl))
  go_wp2_with fail
  refine Qak (l:=[.bool false,.slice none 0 0,.slice none 0 0,.int .i64 0,.bool true,.int .u64 0,.slice none 0 0,.slice none 0 0]) results123 underlying32 (by kernel_rfl) rfl (x1.2.2.2) rfl ?_;rw [HR.out];exact Qb8 (Qgk _ 0 true) x1.1
theorem Qyj(d d2:WD)(x y:List Value)(w:World)(hx:WRd w x d)(hy:WRd w y d2)(a b:Nat)(ha:d.s=(a:Int))(hb:d2.s=(b:Int))(la:a<=allBits)(lb:b<=allBits):Calls prog 140 #[.agg x.toArray,.agg y.toArray] w (RetX 0 w (dOf (svS (a|||b)))):=by
 obtain⟨A,n,c,B,m,e,P,p,r,Q,q,s,rfl,_⟩:=hx.shape;obtain⟨A',n',c',B',m',e',P',p',r',Q',q',s',rfl,_⟩:=hy.shape;show Calls _ _ #[.agg #[.bool d.neg,.slice A n c,.slice B m e,.int .i64 d.c,.bool d.i,.int .u64 d.s,.slice P p r,.slice Q q s],.agg #[.bool d2.neg,.slice A' n' c',.slice B' m' e',.int .i64 d2.c,.bool d2.i,.int .u64 d2.s,.slice P' p' r',.slice Q' q' s']] _ _;obtain⟨hb0,c1,c2,c3⟩:=blk3 w [.bool d.neg,.slice A n c,.slice B m e,.int .i64 d.c,.bool d.i,.int .u64 d.s,.slice P p r,.slice Q q s] [.bool d2.neg,.slice A' n' c',.slice B' m' e',.int .i64 d2.c,.bool d2.i,.int .u64 d2.s,.slice P' p' r',.slice Q' q' s'] [.bool false,.slice none 0 0,.slice none 0 0,.int .i64 0,.bool false,.int .u64 ((a|||b:Nat):Int),.slice none 0 0,.slice none 0 0] 32 32 32;have hbit:_root_.Go.bits .or .u64 (a:Int) (b:Int)=((a|||b:Nat):Int):=u64_or_nat a b (lt_of_le_of_lt la (by decide)) (lt_of_le_of_lt lb (by decide));rw [ha,hb]at*
 clear hx hy;go_enter func140,ntmps140;go_wp2_with fail
 refine Qak (l:=[.bool false,.slice none 0 0,.slice none 0 0,.int .i64 0,.bool false,.int .u64 ((a|||b:Nat):Int),.slice none 0 0,.slice none 0 0]) results140 underlying32 (by kernel_rfl) rfl (c3) rfl ?_;exact Qb8 (Qvo _ _) hb0
theorem Qyk(d d2:WD)(x y:List Value)(w:World)(hx:WRd w x d)(hy:WRd w y d2)(a b:Nat)(ha:d.s=(a:Int))(hb:d2.s=(b:Int))(la:a<=allBits)(lb:b<=allBits):Calls prog 141 #[.agg x.toArray,.agg y.toArray] w (RetX 0 w (dOf (svS (a &&& b)))):=by
 obtain⟨A,n,c,B,m,e,P,p,r,Q,q,s,rfl,_⟩:=hx.shape;obtain⟨A',n',c',B',m',e',P',p',r',Q',q',s',rfl,_⟩:=hy.shape;show Calls _ _ #[.agg #[.bool d.neg,.slice A n c,.slice B m e,.int .i64 d.c,.bool d.i,.int .u64 d.s,.slice P p r,.slice Q q s],.agg #[.bool d2.neg,.slice A' n' c',.slice B' m' e',.int .i64 d2.c,.bool d2.i,.int .u64 d2.s,.slice P' p' r',.slice Q' q' s']] _ _;obtain⟨hb0,c1,c2,c3⟩:=blk3 w [.bool d.neg,.slice A n c,.slice B m e,.int .i64 d.c,.bool d.i,.int .u64 d.s,.slice P p r,.slice Q q s] [.bool d2.neg,.slice A' n' c',.slice B' m' e',.int .i64 d2.c,.bool d2.i,.int .u64 d2.s,.slice P' p' r',.slice Q' q' s'] [.bool false,.slice none 0 0,.slice none 0 0,.int .i64 0,.bool false,.int .u64 ((a &&& b:Nat):Int),.slice none 0 0,.slice none 0 0] 32 32 32;have hbit:_root_.Go.bits .and .u64 (a:Int) (b:Int)=((a &&& b:Nat):Int):=u64_and_nat a b (lt_of_le_of_lt la (by decide)) (lt_of_le_of_lt lb (by decide));rw [ha,hb]at*
 clear hx hy;go_enter func141,ntmps141;go_wp2_with fail
 refine Qak (l:=[.bool false,.slice none 0 0,.slice none 0 0,.int .i64 0,.bool false,.int .u64 ((a &&& b:Nat):Int),.slice none 0 0,.slice none 0 0]) results141 underlying32 (by kernel_rfl) rfl (c3) rfl ?_;exact Qb8 (Qvo _ _) hb0
theorem Qvq(neg:Bool)(A A':Option Addr)(n c m c' d:Nat)(w:World)(hy:Num w (dl d) A' m c')(hd:d≠0):
 Calls prog 79 #[.agg #[.bool neg,.slice A n c,.slice A' m c']] w (RetNum w d):=by
 have hbA:Below w.heap.size w (w.alloc (R1 (.bool neg) (.slice A n c) (.slice A' m c'))):=(Below.refl _ _).alloc (le_refl _) _;by_cases h1:d=1
 ·have hm:m=0:=by rw [hy.len,h1,Qlb];rfl
  subst hm;have H1:=hid h1;clear h1 hd;have hbo:Below w.heap.size w ((w.alloc (R1 (.bool neg) (.slice A n c) (.slice A' 0 c'))).alloc (.cells #[.int .u32 1] 97)):=hbA.alloc hbA.size _;have hone:Num ((w.alloc (R1 (.bool neg) (.slice A n c) (.slice A' 0 c'))).alloc (.cells #[.int .u32 1] 97)) [1] (some ⟨w.heap.size+1,0,none⟩) 1 1:=by
   have:=(show Row _ _ [1]from heap_alloc_new (w.alloc (R1 (.bool neg) (.slice A n c) (.slice A' 0 c'))) _).num (Lim.cons (by decide) Lim.nil) (n:=1) (c:=1) rfl (le_refl _)
   rwa [World.size_alloc]at this
  go_enter func79,ntmps79;go_wp2_with fail
  go_ret;exact⟨_,_,_,rfl,by rw [H1.out,Qay];exact hone,hbo⟩
 ·have hy2:Num w (limbs d) A' m c':=by rw [<-Qj1 h1];exact hy
  have hm:m≠0:=by
   rw [hy2.len];exact fun e=>hd (Qae.1 e)
  have hm0:((m:Int)==0)=false:=by simp;omega
  clear h1 hd hy;go_enter func79,ntmps79;go_wp2_with fail
  go_ret;exact⟨_,_,_,rfl,hy2.below hbA,hbA⟩
theorem Num.set1{w:World}{l:List Nat}{A:Option Addr}{n c:Nat}(h:Num w l A n c){g:Nat}(hA:0<n->∀a,A=some a->a.block≠g)(u0:Value):Num (w.setCell ⟨g,0,none⟩ u0) l A n c:=
 ⟨h.len,h.cap,h.lim,fun hn=>by
  obtain⟨b,o,hA',hb,hc⟩:=h.cells hn;have hne:=hA hn _ hA';refine⟨b,o,hA',by simpa [World.setCell] using hb,fun k x hx=>?_⟩;rw [World.cell?_setCell_other _ _ _ _ (fun e=>hne (by injection e with e1;exact e1.symm))];exact hc k x hx⟩
theorem Qvr{w:World}{A B:Option Addr}{n c m e:Nat}{q:Rat}(hN:Num w (limbs q.num.natAbs) A n c)(hD:Num w (dl q.den) B m e){nb:Bool}(hb:nb=decide ((-q).num<0)):RatQ w (.agg #[.bool nb,.slice A n c,.slice B m e]) (-q):=by
 refine⟨A,n,c,B,m,e,by rw [hb],?_,?_⟩
 ·rw [Rat.neg_num,Int.natAbs_neg];exact hN
 ·rw [Rat.neg_den];exact hD
theorem Qvs(q:Rat):decide ((-q).num<0)=(decide (q.num≠0) && !decide (q.num<0)):=by
 rw [Rat.neg_num,Bool.eq_iff_iff];simp only [Bool.and_eq_true,decide_eq_true_iff,Bool.not_eq_true',decide_eq_false_iff_not];omega
theorem r_Neg(v:Value)(q:Rat)(w:World)(h:Inr w v q):Calls prog 80 #[v] w (RetRat w (-q)):=by
 obtain⟨z0,Z,zn,zc,Z',zm,ze,rfl⟩:=h.agg;obtain⟨hbA,hrx,hrr⟩:=blocks2 w (.bool z0) (.slice Z zn zc) (.slice Z' zm ze) (.bool false) (.slice none 0 0) (.slice none 0 0);go_enter func80,ntmps80;go_wp2_with fail
 refine(Qll _ q _ (h.below hbA)).mono ?_;rintro e w1 ⟨v1,rfl,h1,hb1⟩;have hrx1:=hrx.below hb1 hrx.lt;have hrr1:=hrr.below hb1 hrr.lt;obtain⟨nb,A,n,c,B,m,e,rfl⟩:=h1.agg;obtain⟨k0,k1,k2⟩:=hrx1.cells;obtain⟨f0,f1,f2⟩:=hrx1.frozen;obtain⟨hnb,hN,hD⟩:=h1.parts;have HNB:=hid hnb;have hb01:=bt hbA hb1;have hrx2:=hrx1.set (.bool nb) (.slice A n c) (.slice B m e);have hrr2:=hrr1.far3 (g':=w.heap.size) (by omega) (.bool nb) (.slice A n c) (.slice B m e);have hN2:=hN.set3 (hN.ne_rc hrx1) (.bool nb) (.slice A n c) (.slice B m e);have hD2:=hD.set3 (hD.ne_rc hrx1) (.bool nb) (.slice A n c) (.slice B m e);have hb02:=Qai hb01 (le_refl _) (.bool nb) (.slice A n c) (.slice B m e);have HN:Hid (decide (q.num≠0)=decide (0<n)):=by
  show _=_;rw [hN.len];have h2:(limbs q.num.natAbs).length=0↔q.num.natAbs=0:=Qae;exact decide_eq_decide.2 (by omega)
 clear hnb h1
 go_upto_region 2 with(fail)
 generalize (((w1.setCell ⟨w.heap.size,0,none⟩ (.bool nb)).setCell ⟨w.heap.size,1,none⟩ (.slice A n c)).setCell ⟨w.heap.size,2,none⟩ (.slice B m e))=W2 at*
 clear k0 k1 k2 f0 f1 f2;obtain⟨k0,k1,k2⟩:=hrx2.cells;obtain⟨f0,f1,f2⟩:=hrx2.frozen;obtain⟨r0,r1,r2⟩:=hrr2.cells;obtain⟨g0,g1,g2⟩:=hrr2.frozen;have hwne:¬w.heap.size=w.heap.size+1:=by omega
 have hb3:∀(x:Bool) (u0 u1 u2:Value),Below w.heap.size w ((((W2.setCell ⟨w.heap.size,0,none⟩ (.bool x)).setCell ⟨w.heap.size+1,0,none⟩ u0).setCell ⟨w.heap.size+1,1,none⟩ u1).setCell ⟨w.heap.size+1,2,none⟩ u2):=fun x u0 u1 u2=>Qai (hb02.setCell (p:=⟨w.heap.size,0,none⟩) (le_refl _) _) (by omega) _ _ _
 have hrr3:∀x:Bool,Rc (W2.setCell ⟨w.heap.size,0,none⟩ (.bool x)) (w.heap.size+1) (.bool false) (.slice none 0 0) (.slice none 0 0):=fun x=>hrr2.far (p:=⟨w.heap.size,0,none⟩) (show w.heap.size+1≠w.heap.size from by omega) _
 have hrx3:∀x:Bool,Rc (W2.setCell ⟨w.heap.size,0,none⟩ (.bool x)) w.heap.size (.bool x) (.slice A n c) (.slice B m e):=fun x=>hrx2.set0 (.bool x)
 have hN3:∀x:Bool,Num (W2.setCell ⟨w.heap.size,0,none⟩ (.bool x)) (limbs q.num.natAbs) A n c:=fun x=>hN2.set1 (hN2.ne_rc hrx2) _
 have hD3:∀x:Bool,Num (W2.setCell ⟨w.heap.size,0,none⟩ (.bool x)) (dl q.den) B m e:=fun x=>hD2.set1 (hD2.ne_rc hrx2) _
 have HB3:=hid hb3;have HRR:=hid hrr3;have HRX:=hid hrx3;have HN3:=hid hN3;have HD3:=hid hD3;clear hb3 hrr3 hrx3 hN3 hD3 hN2 hD2 hN hD hb02 hb01 hbA hb1;have hnn:n=0\/0<n:=Nat.eq_zero_or_pos n;have hfin:∀x:Bool,x=decide ((-q).num<0)->∀W',W'=((((W2.setCell ⟨w.heap.size,0,none⟩ (.bool x)).setCell ⟨w.heap.size+1,0,none⟩ (.bool x)).setCell ⟨w.heap.size+1,1,none⟩ (.slice A n c)).setCell ⟨w.heap.size+1,2,none⟩ (.slice B m e))->
  RetRat w (-q) (.returned (.agg #[.bool x,.slice A n c,.slice B m e])) W'/\Rc W' (w.heap.size+1) (.bool x) (.slice A n c) (.slice B m e):=by
  intro x hx W' hW;subst hW;refine⟨⟨_,rfl,Qvr ((HN3.out x).set3 ((HN3.out x).ne_rc (HRR.out x)) _ _ _) ((HD3.out x).set3 ((HD3.out x).ne_rc (HRR.out x)) _ _ _) hx,HB3.out x _ _ _⟩,(HRR.out x).set _ _ _⟩
 have HF:=hid hfin;have HNE:=hid (Qvs q);clear hfin;cases nb
 ·rcases hnn with hn0|hn0
  ·subst hn0
   have hx:false=decide ((-q).num<0):=(by rw [HNE.out,HN.out];rfl);have HX:=hid hx;clear hx;go_wp2_with fail
   refine Qa8 results80 rfl (HF.out false HX.out _ rfl).2 rfl (HF.out false HX.out _ rfl).1
  ·have hx:true=decide ((-q).num<0):=by rw [HNE.out,HN.out,<-HNB.out,decide_eq_true hn0];rfl
   have HX:=hid hx;have hd:decide ((0:Int)<(n:Int))=true:=decide_eq_true (by omega);clear hx;go_wp2_with fail
   refine Qa8 results80 rfl (HF.out true HX.out _ rfl).2 rfl (HF.out true HX.out _ rfl).1
 ·rcases hnn with hn0|hn0
  ·subst hn0
   have hx:false=decide ((-q).num<0):=(by rw [HNE.out,HN.out];rfl);have HX:=hid hx;clear hx;go_wp2_with fail
   refine Qa8 results80 rfl (HF.out false HX.out _ rfl).2 rfl (HF.out false HX.out _ rfl).1
  ·have hx:false=decide ((-q).num<0):=by rw [HNE.out,HN.out,<-HNB.out,decide_eq_true hn0];rfl
   have HX:=hid hx;have hd:decide ((0:Int)<(n:Int))=true:=decide_eq_true (by omega);clear hx;go_wp2_with fail
   refine Qa8 results80 rfl (HF.out false HX.out _ rfl).2 rfl (HF.out false HX.out _ rfl).1
theorem Qo5(s:Bool)(a b:Nat):sgn s (a+b)=sgn s a+sgn s b:=by unfold sgn;cases s<;>simp<;>omega
theorem Qlu(s:Bool){a b:Nat}(h:b<=a):sgn s (a-b)=sgn s a+sgn (!s) b:=by unfold sgn;cases s<;>simp<;>omega
theorem Qjd(s:Bool){a b:Nat}(h:a<=b):sgn s (b-a)=sgn (!s) a+sgn s b:=by unfold sgn;cases s<;>simp<;>omega
theorem r_Add(v v':Value)(x y:Rat)(w:World)(h:Inr w v x)(h':Inr w v' y)(sx:Sz x 400000)(sy:Sz y 400000):Calls prog 56 #[v,v'] w (RetRat w (x+y)):=by
 obtain⟨z0,Z,zn,zc,Z',zm,ze,rfl⟩:=h.agg;obtain⟨y0,Y,yn,yc,Y',ym,ye,rfl⟩:=h'.agg;obtain⟨hbA,hrx,hry,hrr⟩:=blocks3 w (.bool z0) (.slice Z zn zc) (.slice Z' zm ze) (.bool y0) (.slice Y yn yc) (.slice Y' ym ye) (.bool false) (.slice none 0 0) (.slice none 0 0);go_enter func56,ntmps56;have hI:=h.below hbA;have hI':=h'.below hbA;go_wp2_with fail
 generalize (((w.alloc (R1 (.bool z0) (.slice Z zn zc) (.slice Z' zm ze))).alloc (R1 (.bool y0) (.slice Y yn yc) (.slice Y' ym ye))).alloc (R1 (.bool false) (.slice none 0 0) (.slice none 0 0)))=W at*
 have hgx:w.heap.size<W.drew.heap.size:=hrx.lt;have hgy:w.heap.size+1<W.drew.heap.size:=hry.lt;have hgr:w.heap.size+1+1<W.drew.heap.size:=hrr.lt;replace hrx:=hrx.drew;replace hry:=hry.drew;replace hrr:=hrr.drew;replace hI:Inr W.drew _ x:=hI.below (Below.refl _ _).drew;replace hI':Inr W.drew _ y:=hI'.below (Below.refl _ _).drew;replace hbA:=hbA.drew;obtain⟨k0,k1,k2⟩:=hrx.cells;obtain⟨l0,l1,l2⟩:=hry.cells
 go_cut []from 8 to 11 (fun wx=>Clean2 w x y wx/\Rc wx (w.heap.size+1+1) (.bool false) (.slice none 0 0) (.slice none 0 0))
 case first=>
  go_region_with (first
   |(have _g:=hb1;go_at_call 74;refine(Qll _ y _ (hI'.below hb1)).mono ?_;rintro e w2 ⟨v2,rfl,h2,hb2⟩;have hb12:=bt hb1 hb2;obtain⟨k0,k1,k2⟩:=(hrx.below hb12 hgx).cells;obtain⟨l0,l1,l2⟩:=(hry.below hb12 hgy).cells;obtain⟨f0,f1,f2⟩:=(hrx.below hb12 hgx).frozen;obtain⟨g0,g1,g2⟩:=(hry.below hb12 hgy).frozen;obtain⟨nb2,A2,n2,c2,B2,m2,e2,rfl⟩:=h2.agg)
   |(go_at_call 74;refine(Qll _ x _ hI).mono ?_;rintro e w1 ⟨v1,rfl,h1,hb1⟩;obtain⟨k0,k1,k2⟩:=(hrx.below hb1 hgx).cells;obtain⟨l0,l1,l2⟩:=(hry.below hb1 hgy).cells;obtain⟨nb1,A1,n1,c1,B1,m1,e1,rfl⟩:=h1.agg))
  all_goals
   go_wp2_with fail
   go_meet
   exact⟨Clean2.of (h1.below hb2) h2 (hrx.below hb12 hgx) (hry.below hb12 hgy) (bt hbA hb12),((hrr.below hb12 hgr).far3 (by omega) _ _ _).far3 (by omega) _ _ _⟩
 case rest=>
 obtain⟨⟨nb1,A1,n1,c1,B1,m1,e1,nb2,A2,n2,c2,B2,m2,e2,h1,h2,hrx1,hry1,hb1⟩,hrr1⟩:=hcut;clear hrx hry hrr hgx hgy hgr hI hI' hbA k0 k1 k2 l0 l1 l2;obtain⟨p1,p2,p3⟩:=h1.parts;obtain⟨q1,q2,q3⟩:=h2.parts;have HP1:=hid p1;have HQ1:=hid q1;have HLX:=hid sx.2;have HLY:=hid sy.2;clear p1 q1;have hs1:n1<=1000000:=by rw [p2.len];exact le_trans sx.1 (by decide)
 have hs2:m1<=1000000:=by rw [p3.len];exact le_trans (le_trans (Qbd _) sx.2) (by decide)
 have hs3:n2<=1000000:=by rw [q2.len];exact le_trans sy.1 (by decide)
 have hs4:m2<=1000000:=by rw [q3.len];exact le_trans (le_trans (Qbd _) sy.2) (by decide)
 go_wp2_with fail
 replace hrx1:=hrx1.drew;replace hry1:=hry1.drew;replace hrr1:=hrr1.drew;replace p2:=p2.drew;replace p3:=p3.drew;replace q2:=q2.drew;replace q3:=q3.drew;replace hb1:=hb1.drew;clear h1 h2 h h';have hgx:=hrx1.lt;have hgy:=hry1.lt;have hgr:=hrr1.lt;have hsx:=hrx1.cells;have hsy:=hry1.cells
 go_region_held3 (fun w'=>(w'.cell? ⟨w.heap.size,0,none⟩=some (.bool nb1)/\w'.cell? ⟨w.heap.size,1,none⟩=some (.slice A1 n1 c1)/\w'.cell? ⟨w.heap.size,2,none⟩=some (.slice B1 m1 e1))/\(w'.cell? ⟨w.heap.size+1,0,none⟩=some (.bool nb2)/\w'.cell? ⟨w.heap.size+1,1,none⟩=some (.slice A2 n2 c2)/\w'.cell? ⟨w.heap.size+1,2,none⟩=some (.slice B2 m2 e2)))
  (first|exact⟨hsx,hsy⟩|exact⟨⟨Qaa (by omega) hsx.1,Qaa (by omega) hsx.2.1,Qaa (by omega) hsx.2.2⟩,⟨Qaa (by omega) hsy.1,Qaa (by omega) hsy.2.1,Qaa (by omega) hsy.2.2⟩⟩)
  (first
   |(have _g:=hb7;go_at_call 78;refine(Qnh _ _ _ _ _ _ x.den y.den _ (g6.below hb7) g7 ?_ ?_).mono ?_;(have:=g6.len;have:=HLX.out;omega);(have:=g7.len;have:=HLY.out;omega);rintro e w8 ⟨Q8,k8,d8,rfl,g8,hb8⟩;have hb18:=bt hb17 hb8;have hsx:=(hrx1.below hb18 hgx).cells;have hsy:=(hry1.below hb18 hgy).cells)
   |(have _g:=hb6;go_at_call 79;refine(Qvq nb2 A2 B2 n2 c2 m2 e2 y.den _ (q3.below hb16) y.den_nz).mono ?_;rintro e w7 ⟨Q7,k7,d7,rfl,g7,hb7⟩;have hb17:=bt hb16 hb7;have hsx:=(hrx1.below hb17 hgx).cells;have hsy:=(hry1.below hb17 hgy).cells)
   |(have _g:=hb5;go_at_call 79;refine(Qvq nb1 A1 B1 n1 c1 m1 e1 x.den _ (p3.below hb15) x.den_nz).mono ?_;rintro e w6 ⟨Q6,k6,d6,rfl,g6,hb6⟩;have hb16:=bt hb15 hb6;have hsx:=(hrx1.below hb16 hgx).cells;have hsy:=(hry1.below hb16 hgy).cells)
   |(have _g:=hb4;go_at_call 78;refine(Qnh _ _ _ _ _ _ y.num.natAbs x.den _ (q2.below hb14) g4 ?_ ?_).mono ?_;omega;(have:=g4.len;have:=HLX.out;omega);rintro e w5 ⟨Q5,k5,d5,rfl,g5,hb5⟩;have hb15:=bt hb14 hb5;have hsx:=(hrx1.below hb15 hgx).cells;have hsy:=(hry1.below hb15 hgy).cells)
   |(have _g:=hb3;go_at_call 79;refine(Qvq nb1 A1 B1 n1 c1 m1 e1 x.den _ (p3.below hb13) x.den_nz).mono ?_;rintro e w4 ⟨Q4,k4,d4,rfl,g4,hb4⟩;have hb14:=bt hb13 hb4;have hsx:=(hrx1.below hb14 hgx).cells;have hsy:=(hry1.below hb14 hgy).cells)
   |(have _g:=hb2;go_at_call 78;refine(Qnh _ _ _ _ _ _ x.num.natAbs y.den _ (p2.below hb12) g2 ?_ ?_).mono ?_;omega;(have:=g2.len;have:=HLY.out;omega);rintro e w3 ⟨Q3,k3,d3,rfl,g3,hb3⟩;have hb13:=bt hb12 hb3;have hsx:=(hrx1.below hb13 hgx).cells;have hsy:=(hry1.below hb13 hgy).cells)
   |(go_at_call 79;refine(Qvq nb2 A2 B2 n2 c2 m2 e2 y.den _ q3 y.den_nz).mono ?_;rintro e w2 ⟨Q2,k2,d2,rfl,g2,hb2⟩;have hb12:=hb2;have hsx:=(hrx1.below hb12 hgx).cells;have hsy:=(hry1.below hb12 hgy).cells))
 have e1:=bt hb4 hb5;have e2:=bt e1 hb6;have e3:=bt e2 hb7;have e4:=bt e3 hb8;have i1:=bt hb6 hb7;have i2:=bt i1 hb8;have ga:=g3.num.below e4;have gb:=g5.num.below i2;have gd:=g8.num;have HRX:=hrx1.below hb18 hgx;have HRY:=hry1.below hb18 hgy;have HRR:=hrr1.below hb18 hgr;have hbw:=bt hb1 hb18;have hval:mkRat (sgn nb1 (x.num.natAbs*y.den)+sgn nb2 (y.num.natAbs*x.den)) (x.den*y.den)=x+y:=by
  rw [Rat.add_def',<-Qbc,<-Qbc,HP1.out,HQ1.out,Qj0,Qj0]
 have HLA:=hid (le_trans (Qa0 x.num.natAbs y.den) (Nat.add_le_add sx.1 sy.2));have HLB:=hid (le_trans (Qa0 y.num.natAbs x.den) (Nat.add_le_add sy.1 sx.2));have HLD:=hid (le_trans (Qa0 x.den y.den) (Nat.add_le_add sx.2 sy.2));have HDN:=hid (Nat.mul_ne_zero x.den_nz y.den_nz);clear e1 e2 e3 e4 i1 i2 g2 g3 g4 g5 g6 g7 g8 hb2 hb3 hb4 hb5 hb6 hb7 hb8 hb12 hb13 hb14 hb15 hb16 hb17 hb18 p2 p3 q2 q3 hrx1 hry1 hrr1 hgx hgy hgr hb1 HP1 HQ1 HLX HLY hs1 hs2 hs3 hs4 sx sy;generalize x.num.natAbs*y.den=a at*
 generalize y.num.natAbs*x.den=b at*
 generalize x.den*y.den=d at*
 generalize x+y=r at*
 have HV:=hid hval;clear hval;obtain⟨cx0,cx1,cx2⟩:=HRX.cells;obtain⟨cy0,cy1,cy2⟩:=HRY.cells;cases nb1<;>cases nb2
 ·have hq:qv false (a+b) d=r:=by rw [<-HV.out];unfold qv;rw [Qo5]
  have HSZ:=hid (show(limbs (a+b)).length<=800001 by have:=HLA.out;have:=HLB.out;have:=Qb3 a b;omega);obtain⟨j1,j2,j3⟩:=Qbt false (a:=a+b) HDN.out;rw [hq]at j1;have HJ:=hid (And.intro j1 (And.intro j2 j3));clear hq j1 j2 j3;go_wp2_with fail
  replace HRX:=HRX.drew;replace HRY:=HRY.drew;replace HRR:=HRR.drew;replace ga:=ga.drew;replace gb:=gb.drew;replace gd:=gd.drew;replace hbw:=hbw.drew;have hgx:=HRX.lt;have hgy:=HRY.lt;have hgr:=HRR.lt;have hsx:=HRX.cells;have hsy:=HRY.cells
  go_region_held3 (fun w'=>(w'.cell? ⟨w.heap.size,0,none⟩=some (.bool false)/\w'.cell? ⟨w.heap.size,1,none⟩=some (.slice A1 n1 c1)/\w'.cell? ⟨w.heap.size,2,none⟩=some (.slice B1 m1 e1))/\(w'.cell? ⟨w.heap.size+1,0,none⟩=some (.bool false)/\w'.cell? ⟨w.heap.size+1,1,none⟩=some (.slice A2 n2 c2)/\w'.cell? ⟨w.heap.size+1,2,none⟩=some (.slice B2 m2 e2)))
   (first|exact⟨hsx,hsy⟩|exact⟨⟨Qaa (by omega) hsx.1,Qaa (by omega) hsx.2.1,Qaa (by omega) hsx.2.2⟩,⟨Qaa (by omega) hsy.1,Qaa (by omega) hsy.2.1,Qaa (by omega) hsy.2.2⟩⟩)
   (first
    |(have _g:=hb9;go_at_call 77;refine(Qhx _ _ _ _ _ _ _ (a+b) d _ g9.num (gd.below hb9) ?_ ?_ HDN.out).mono ?_;(have:=g9.len;have:=HSZ.out;omega);(have:=gd.len;have:=HLD.out;omega);rintro e w10 hr;obtain⟨v10,rfl,h10,hb10⟩:=RetFrac.rat HJ.out.2.1 HJ.out.2.2 HJ.out.1 hr;have hb19:=bt hb9 hb10;have hsx:=(HRX.below hb19 hgx).cells;have hsy:=(HRY.below hb19 hgy).cells;have hrr9:=HRR.below hb19 hgr;obtain⟨nb,A,n,c,B,m,e,rfl⟩:=h10.agg;obtain⟨r0,r1,r2⟩:=hrr9.cells;obtain⟨f0,f1,f2⟩:=hrr9.frozen)
    |(go_at_call 82;refine(Qos _ _ _ _ _ _ a b _ ga gb ?_ ?_).mono ?_;(have:=ga.len;have:=HLA.out;omega);(have:=gb.len;have:=HLB.out;omega);rintro e w9 ⟨A9,n9,c9,rfl,g9,hb9⟩;have hsx:=(HRX.below hb9 hgx).cells;have hsy:=(HRY.below hb9 hgy).cells))
  go_wp2_with fail
  refine Qa8 results56 rfl (hrr9.set _ _ _) rfl ?_;exact⟨_,rfl,h10.set3 hrr9 _ _ _,Qai (bt hbw hb19) (by omega) _ _ _⟩
 ·go_wp2_with fail
  rcases lt_or_ge a b with hab|hab
  ·have HLE:=hid (Nat.le_of_lt hab)
   obtain⟨cv,hcv,hc0⟩:∃cv:Int,cmpI a b=cv/\decide (0<=cv)=false:=⟨_,rfl,by unfold cmpI;rw [if_pos (by omega)];decide⟩;have HCV:=hid hcv;clear hcv;have hq:qv true (b-a) d=r:=(by rw [<-HV.out];unfold qv;rw [Qjd _ HLE.out];rfl);have HSZ:=hid (show(limbs (b-a)).length<=800001 by have:=HLA.out;have:=HLB.out;have:=Qad (Nat.sub_le b a);omega);obtain⟨j1,j2,j3⟩:=Qbt true (a:=b-a) HDN.out;rw [hq]at j1;have HJ:=hid (And.intro j1 (And.intro j2 j3));clear hq j1 j2 j3 hab;refine(Qc2 _ _ _ _ _ _ a b _ cv ga gb (by have:=ga.len;have:=HLA.out;omega) (by have:=gb.len;have:=HLB.out;omega) HCV).mono ?_;rintro e w' ⟨rfl,q,rfl⟩;replace HRX:=HRX.drewN q;replace HRY:=HRY.drewN q;replace HRR:=HRR.drewN q;replace ga:=ga.drewN q;replace gb:=gb.drewN q;replace gd:=gd.drewN q;replace hbw:=Qah hbw q;obtain⟨cx0,cx1,cx2⟩:=HRX.cells;obtain⟨cy0,cy1,cy2⟩:=HRY.cells;go_wp2_with fail
   replace HRX:=HRX.drew;replace HRY:=HRY.drew;replace HRR:=HRR.drew;replace ga:=ga.drew;replace gb:=gb.drew;replace gd:=gd.drew;replace hbw:=hbw.drew;have hgx:=HRX.lt;have hgy:=HRY.lt;have hgr:=HRR.lt;have hsx:=HRX.cells;have hsy:=HRY.cells
   go_region_held3 (fun w'=>(w'.cell? ⟨w.heap.size,0,none⟩=some (.bool false)/\w'.cell? ⟨w.heap.size,1,none⟩=some (.slice A1 n1 c1)/\w'.cell? ⟨w.heap.size,2,none⟩=some (.slice B1 m1 e1))/\(w'.cell? ⟨w.heap.size+1,0,none⟩=some (.bool true)/\w'.cell? ⟨w.heap.size+1,1,none⟩=some (.slice A2 n2 c2)/\w'.cell? ⟨w.heap.size+1,2,none⟩=some (.slice B2 m2 e2)))
    (first|exact⟨hsx,hsy⟩|exact⟨⟨Qaa (by omega) hsx.1,Qaa (by omega) hsx.2.1,Qaa (by omega) hsx.2.2⟩,⟨Qaa (by omega) hsy.1,Qaa (by omega) hsy.2.1,Qaa (by omega) hsy.2.2⟩⟩)
    (first
     |(have _g:=hb9;go_at_call 77;refine(Qhx _ _ _ _ _ _ _ (b-a) d _ g9.num (gd.below hb9) ?_ ?_ HDN.out).mono ?_;(have:=g9.len;have:=HSZ.out;omega);(have:=gd.len;have:=HLD.out;omega);rintro e w10 hr;obtain⟨v10,rfl,h10,hb10⟩:=RetFrac.rat HJ.out.2.1 HJ.out.2.2 HJ.out.1 hr;have hb19:=bt hb9 hb10;have hsx:=(HRX.below hb19 hgx).cells;have hsy:=(HRY.below hb19 hgy).cells;have hrr9:=HRR.below hb19 hgr;obtain⟨nb,A,n,c,B,m,e,rfl⟩:=h10.agg;obtain⟨r0,r1,r2⟩:=hrr9.cells;obtain⟨f0,f1,f2⟩:=hrr9.frozen)
     |(go_at_call 84;refine(Qhs _ _ _ _ _ _ b a _ gb ga ?_ HLE.out).mono ?_;(have:=gb.len;have:=HLB.out;omega);rintro e w9 ⟨A9,n9,c9,rfl,g9,hb9⟩;have hsx:=(HRX.below hb9 hgx).cells;have hsy:=(HRY.below hb9 hgy).cells))
   go_wp2_with fail
   refine Qa8 results56 rfl (hrr9.set _ _ _) rfl ?_;exact⟨_,rfl,h10.set3 hrr9 _ _ _,Qai (bt hbw hb19) (by omega) _ _ _⟩
  ·have HLE:=hid (hab)
   obtain⟨cv,hcv,hc0⟩:∃cv:Int,cmpI a b=cv/\decide (0<=cv)=true:=⟨_,rfl,by unfold cmpI;rw [if_neg (by omega)];split<;>decide⟩;have HCV:=hid hcv;clear hcv;have hq:qv false (a-b) d=r:=(by rw [<-HV.out];unfold qv;rw [Qlu _ HLE.out];rfl);have HSZ:=hid (show(limbs (a-b)).length<=800001 by have:=HLA.out;have:=HLB.out;have:=Qad (Nat.sub_le a b);omega);obtain⟨j1,j2,j3⟩:=Qbt false (a:=a-b) HDN.out;rw [hq]at j1;have HJ:=hid (And.intro j1 (And.intro j2 j3));clear hq j1 j2 j3 hab;refine(Qc2 _ _ _ _ _ _ a b _ cv ga gb (by have:=ga.len;have:=HLA.out;omega) (by have:=gb.len;have:=HLB.out;omega) HCV).mono ?_;rintro e w' ⟨rfl,q,rfl⟩;replace HRX:=HRX.drewN q;replace HRY:=HRY.drewN q;replace HRR:=HRR.drewN q;replace ga:=ga.drewN q;replace gb:=gb.drewN q;replace gd:=gd.drewN q;replace hbw:=Qah hbw q;obtain⟨cx0,cx1,cx2⟩:=HRX.cells;obtain⟨cy0,cy1,cy2⟩:=HRY.cells;go_wp2_with fail
   replace HRX:=HRX.drew;replace HRY:=HRY.drew;replace HRR:=HRR.drew;replace ga:=ga.drew;replace gb:=gb.drew;replace gd:=gd.drew;replace hbw:=hbw.drew;have hgx:=HRX.lt;have hgy:=HRY.lt;have hgr:=HRR.lt;have hsx:=HRX.cells;have hsy:=HRY.cells
   go_region_held3 (fun w'=>(w'.cell? ⟨w.heap.size,0,none⟩=some (.bool false)/\w'.cell? ⟨w.heap.size,1,none⟩=some (.slice A1 n1 c1)/\w'.cell? ⟨w.heap.size,2,none⟩=some (.slice B1 m1 e1))/\(w'.cell? ⟨w.heap.size+1,0,none⟩=some (.bool true)/\w'.cell? ⟨w.heap.size+1,1,none⟩=some (.slice A2 n2 c2)/\w'.cell? ⟨w.heap.size+1,2,none⟩=some (.slice B2 m2 e2)))
    (first|exact⟨hsx,hsy⟩|exact⟨⟨Qaa (by omega) hsx.1,Qaa (by omega) hsx.2.1,Qaa (by omega) hsx.2.2⟩,⟨Qaa (by omega) hsy.1,Qaa (by omega) hsy.2.1,Qaa (by omega) hsy.2.2⟩⟩)
    (first
     |(have _g:=hb9;go_at_call 77;refine(Qhx _ _ _ _ _ _ _ (a-b) d _ g9.num (gd.below hb9) ?_ ?_ HDN.out).mono ?_;(have:=g9.len;have:=HSZ.out;omega);(have:=gd.len;have:=HLD.out;omega);rintro e w10 hr;obtain⟨v10,rfl,h10,hb10⟩:=RetFrac.rat HJ.out.2.1 HJ.out.2.2 HJ.out.1 hr;have hb19:=bt hb9 hb10;have hsx:=(HRX.below hb19 hgx).cells;have hsy:=(HRY.below hb19 hgy).cells;have hrr9:=HRR.below hb19 hgr;obtain⟨nb,A,n,c,B,m,e,rfl⟩:=h10.agg;obtain⟨r0,r1,r2⟩:=hrr9.cells;obtain⟨f0,f1,f2⟩:=hrr9.frozen)
     |(go_at_call 84;refine(Qhs _ _ _ _ _ _ a b _ ga gb ?_ HLE.out).mono ?_;(have:=ga.len;have:=HLA.out;omega);rintro e w9 ⟨A9,n9,c9,rfl,g9,hb9⟩;have hsx:=(HRX.below hb9 hgx).cells;have hsy:=(HRY.below hb9 hgy).cells))
   go_wp2_with fail
   refine Qa8 results56 rfl (hrr9.set _ _ _) rfl ?_;exact⟨_,rfl,h10.set3 hrr9 _ _ _,Qai (bt hbw hb19) (by omega) _ _ _⟩
 ·go_wp2_with fail
  rcases lt_or_ge a b with hab|hab
  ·have HLE:=hid (Nat.le_of_lt hab)
   obtain⟨cv,hcv,hc0⟩:∃cv:Int,cmpI a b=cv/\decide (0<=cv)=false:=⟨_,rfl,by unfold cmpI;rw [if_pos (by omega)];decide⟩;have HCV:=hid hcv;clear hcv;have hq:qv false (b-a) d=r:=(by rw [<-HV.out];unfold qv;rw [Qjd _ HLE.out];rfl);have HSZ:=hid (show(limbs (b-a)).length<=800001 by have:=HLA.out;have:=HLB.out;have:=Qad (Nat.sub_le b a);omega);obtain⟨j1,j2,j3⟩:=Qbt false (a:=b-a) HDN.out;rw [hq]at j1;have HJ:=hid (And.intro j1 (And.intro j2 j3));clear hq j1 j2 j3 hab;refine(Qc2 _ _ _ _ _ _ a b _ cv ga gb (by have:=ga.len;have:=HLA.out;omega) (by have:=gb.len;have:=HLB.out;omega) HCV).mono ?_;rintro e w' ⟨rfl,q,rfl⟩;replace HRX:=HRX.drewN q;replace HRY:=HRY.drewN q;replace HRR:=HRR.drewN q;replace ga:=ga.drewN q;replace gb:=gb.drewN q;replace gd:=gd.drewN q;replace hbw:=Qah hbw q;obtain⟨cx0,cx1,cx2⟩:=HRX.cells;obtain⟨cy0,cy1,cy2⟩:=HRY.cells;go_wp2_with fail
   replace HRX:=HRX.drew;replace HRY:=HRY.drew;replace HRR:=HRR.drew;replace ga:=ga.drew;replace gb:=gb.drew;replace gd:=gd.drew;replace hbw:=hbw.drew;have hgx:=HRX.lt;have hgy:=HRY.lt;have hgr:=HRR.lt;have hsx:=HRX.cells;have hsy:=HRY.cells
   go_region_held3 (fun w'=>(w'.cell? ⟨w.heap.size,0,none⟩=some (.bool true)/\w'.cell? ⟨w.heap.size,1,none⟩=some (.slice A1 n1 c1)/\w'.cell? ⟨w.heap.size,2,none⟩=some (.slice B1 m1 e1))/\(w'.cell? ⟨w.heap.size+1,0,none⟩=some (.bool false)/\w'.cell? ⟨w.heap.size+1,1,none⟩=some (.slice A2 n2 c2)/\w'.cell? ⟨w.heap.size+1,2,none⟩=some (.slice B2 m2 e2)))
    (first|exact⟨hsx,hsy⟩|exact⟨⟨Qaa (by omega) hsx.1,Qaa (by omega) hsx.2.1,Qaa (by omega) hsx.2.2⟩,⟨Qaa (by omega) hsy.1,Qaa (by omega) hsy.2.1,Qaa (by omega) hsy.2.2⟩⟩)
    (first
     |(have _g:=hb9;go_at_call 77;refine(Qhx _ _ _ _ _ _ _ (b-a) d _ g9.num (gd.below hb9) ?_ ?_ HDN.out).mono ?_;(have:=g9.len;have:=HSZ.out;omega);(have:=gd.len;have:=HLD.out;omega);rintro e w10 hr;obtain⟨v10,rfl,h10,hb10⟩:=RetFrac.rat HJ.out.2.1 HJ.out.2.2 HJ.out.1 hr;have hb19:=bt hb9 hb10;have hsx:=(HRX.below hb19 hgx).cells;have hsy:=(HRY.below hb19 hgy).cells;have hrr9:=HRR.below hb19 hgr;obtain⟨nb,A,n,c,B,m,e,rfl⟩:=h10.agg;obtain⟨r0,r1,r2⟩:=hrr9.cells;obtain⟨f0,f1,f2⟩:=hrr9.frozen)
     |(go_at_call 84;refine(Qhs _ _ _ _ _ _ b a _ gb ga ?_ HLE.out).mono ?_;(have:=gb.len;have:=HLB.out;omega);rintro e w9 ⟨A9,n9,c9,rfl,g9,hb9⟩;have hsx:=(HRX.below hb9 hgx).cells;have hsy:=(HRY.below hb9 hgy).cells))
   go_wp2_with fail
   refine Qa8 results56 rfl (hrr9.set _ _ _) rfl ?_;exact⟨_,rfl,h10.set3 hrr9 _ _ _,Qai (bt hbw hb19) (by omega) _ _ _⟩
  ·have HLE:=hid (hab)
   obtain⟨cv,hcv,hc0⟩:∃cv:Int,cmpI a b=cv/\decide (0<=cv)=true:=⟨_,rfl,by unfold cmpI;rw [if_neg (by omega)];split<;>decide⟩;have HCV:=hid hcv;clear hcv;have hq:qv true (a-b) d=r:=(by rw [<-HV.out];unfold qv;rw [Qlu _ HLE.out];rfl);have HSZ:=hid (show(limbs (a-b)).length<=800001 by have:=HLA.out;have:=HLB.out;have:=Qad (Nat.sub_le a b);omega);obtain⟨j1,j2,j3⟩:=Qbt true (a:=a-b) HDN.out;rw [hq]at j1;have HJ:=hid (And.intro j1 (And.intro j2 j3));clear hq j1 j2 j3 hab;refine(Qc2 _ _ _ _ _ _ a b _ cv ga gb (by have:=ga.len;have:=HLA.out;omega) (by have:=gb.len;have:=HLB.out;omega) HCV).mono ?_;rintro e w' ⟨rfl,q,rfl⟩;replace HRX:=HRX.drewN q;replace HRY:=HRY.drewN q;replace HRR:=HRR.drewN q;replace ga:=ga.drewN q;replace gb:=gb.drewN q;replace gd:=gd.drewN q;replace hbw:=Qah hbw q;obtain⟨cx0,cx1,cx2⟩:=HRX.cells;obtain⟨cy0,cy1,cy2⟩:=HRY.cells;go_wp2_with fail
   replace HRX:=HRX.drew;replace HRY:=HRY.drew;replace HRR:=HRR.drew;replace ga:=ga.drew;replace gb:=gb.drew;replace gd:=gd.drew;replace hbw:=hbw.drew;have hgx:=HRX.lt;have hgy:=HRY.lt;have hgr:=HRR.lt;have hsx:=HRX.cells;have hsy:=HRY.cells
   go_region_held3 (fun w'=>(w'.cell? ⟨w.heap.size,0,none⟩=some (.bool true)/\w'.cell? ⟨w.heap.size,1,none⟩=some (.slice A1 n1 c1)/\w'.cell? ⟨w.heap.size,2,none⟩=some (.slice B1 m1 e1))/\(w'.cell? ⟨w.heap.size+1,0,none⟩=some (.bool false)/\w'.cell? ⟨w.heap.size+1,1,none⟩=some (.slice A2 n2 c2)/\w'.cell? ⟨w.heap.size+1,2,none⟩=some (.slice B2 m2 e2)))
    (first|exact⟨hsx,hsy⟩|exact⟨⟨Qaa (by omega) hsx.1,Qaa (by omega) hsx.2.1,Qaa (by omega) hsx.2.2⟩,⟨Qaa (by omega) hsy.1,Qaa (by omega) hsy.2.1,Qaa (by omega) hsy.2.2⟩⟩)
    (first
     |(have _g:=hb9;go_at_call 77;refine(Qhx _ _ _ _ _ _ _ (a-b) d _ g9.num (gd.below hb9) ?_ ?_ HDN.out).mono ?_;(have:=g9.len;have:=HSZ.out;omega);(have:=gd.len;have:=HLD.out;omega);rintro e w10 hr;obtain⟨v10,rfl,h10,hb10⟩:=RetFrac.rat HJ.out.2.1 HJ.out.2.2 HJ.out.1 hr;have hb19:=bt hb9 hb10;have hsx:=(HRX.below hb19 hgx).cells;have hsy:=(HRY.below hb19 hgy).cells;have hrr9:=HRR.below hb19 hgr;obtain⟨nb,A,n,c,B,m,e,rfl⟩:=h10.agg;obtain⟨r0,r1,r2⟩:=hrr9.cells;obtain⟨f0,f1,f2⟩:=hrr9.frozen)
     |(go_at_call 84;refine(Qhs _ _ _ _ _ _ a b _ ga gb ?_ HLE.out).mono ?_;(have:=ga.len;have:=HLA.out;omega);rintro e w9 ⟨A9,n9,c9,rfl,g9,hb9⟩;have hsx:=(HRX.below hb9 hgx).cells;have hsy:=(HRY.below hb9 hgy).cells))
   go_wp2_with fail
   refine Qa8 results56 rfl (hrr9.set _ _ _) rfl ?_;exact⟨_,rfl,h10.set3 hrr9 _ _ _,Qai (bt hbw hb19) (by omega) _ _ _⟩
 ·have hq:qv true (a+b) d=r:=by rw [<-HV.out];unfold qv;rw [Qo5]
  have HSZ:=hid (show(limbs (a+b)).length<=800001 by have:=HLA.out;have:=HLB.out;have:=Qb3 a b;omega);obtain⟨j1,j2,j3⟩:=Qbt true (a:=a+b) HDN.out;rw [hq]at j1;have HJ:=hid (And.intro j1 (And.intro j2 j3));clear hq j1 j2 j3;go_wp2_with fail
  replace HRX:=HRX.drew;replace HRY:=HRY.drew;replace HRR:=HRR.drew;replace ga:=ga.drew;replace gb:=gb.drew;replace gd:=gd.drew;replace hbw:=hbw.drew;have hgx:=HRX.lt;have hgy:=HRY.lt;have hgr:=HRR.lt;have hsx:=HRX.cells;have hsy:=HRY.cells
  go_region_held3 (fun w'=>(w'.cell? ⟨w.heap.size,0,none⟩=some (.bool true)/\w'.cell? ⟨w.heap.size,1,none⟩=some (.slice A1 n1 c1)/\w'.cell? ⟨w.heap.size,2,none⟩=some (.slice B1 m1 e1))/\(w'.cell? ⟨w.heap.size+1,0,none⟩=some (.bool true)/\w'.cell? ⟨w.heap.size+1,1,none⟩=some (.slice A2 n2 c2)/\w'.cell? ⟨w.heap.size+1,2,none⟩=some (.slice B2 m2 e2)))
   (first|exact⟨hsx,hsy⟩|exact⟨⟨Qaa (by omega) hsx.1,Qaa (by omega) hsx.2.1,Qaa (by omega) hsx.2.2⟩,⟨Qaa (by omega) hsy.1,Qaa (by omega) hsy.2.1,Qaa (by omega) hsy.2.2⟩⟩)
   (first
    |(have _g:=hb9;go_at_call 77;refine(Qhx _ _ _ _ _ _ _ (a+b) d _ g9.num (gd.below hb9) ?_ ?_ HDN.out).mono ?_;(have:=g9.len;have:=HSZ.out;omega);(have:=gd.len;have:=HLD.out;omega);rintro e w10 hr;obtain⟨v10,rfl,h10,hb10⟩:=RetFrac.rat HJ.out.2.1 HJ.out.2.2 HJ.out.1 hr;have hb19:=bt hb9 hb10;have hsx:=(HRX.below hb19 hgx).cells;have hsy:=(HRY.below hb19 hgy).cells;have hrr9:=HRR.below hb19 hgr;obtain⟨nb,A,n,c,B,m,e,rfl⟩:=h10.agg;obtain⟨r0,r1,r2⟩:=hrr9.cells;obtain⟨f0,f1,f2⟩:=hrr9.frozen)
    |(go_at_call 82;refine(Qos _ _ _ _ _ _ a b _ ga gb ?_ ?_).mono ?_;(have:=ga.len;have:=HLA.out;omega);(have:=gb.len;have:=HLB.out;omega);rintro e w9 ⟨A9,n9,c9,rfl,g9,hb9⟩;have hsx:=(HRX.below hb9 hgx).cells;have hsy:=(HRY.below hb9 hgy).cells))
  go_wp2_with fail
  refine Qa8 results56 rfl (hrr9.set _ _ _) rfl ?_;exact⟨_,rfl,h10.set3 hrr9 _ _ _,Qai (bt hbw hb19) (by omega) _ _ _⟩
theorem r_Sub(v v':Value)(x y:Rat)(w:World)(h:Inr w v x)(h':Inr w v' y)(sx:Sz x 400000)(sy:Sz y 400000):Calls prog 54 #[v,v'] w (RetRat w (x-y)):=by
 obtain⟨z0,Z,zn,zc,Z',zm,ze,rfl⟩:=h.agg;obtain⟨y0,Y,yn,yc,Y',ym,ye,rfl⟩:=h'.agg;obtain⟨hbA,hrx,hry,hrr⟩:=blocks3 w (.bool z0) (.slice Z zn zc) (.slice Z' zm ze) (.bool y0) (.slice Y yn yc) (.slice Y' ym ye) (.bool false) (.slice none 0 0) (.slice none 0 0);have HR:=hid (Rat.sub_eq_add_neg x y);go_enter func54,ntmps54;have hI:=h.below hbA;have hI':=h'.below hbA;go_wp2_with fail
 generalize (((w.alloc (R1 (.bool z0) (.slice Z zn zc) (.slice Z' zm ze))).alloc (R1 (.bool y0) (.slice Y yn yc) (.slice Y' ym ye))).alloc (R1 (.bool false) (.slice none 0 0) (.slice none 0 0)))=W at*
 have hgx:w.heap.size<W.drew.heap.size:=hrx.lt;have hgy:w.heap.size+1<W.drew.heap.size:=hry.lt;have hgr:w.heap.size+1+1<W.drew.heap.size:=hrr.lt;replace hrx:=hrx.drew;replace hry:=hry.drew;replace hrr:=hrr.drew;replace hI:Inr W.drew _ x:=hI.below (Below.refl _ _).drew;replace hI':Inr W.drew _ y:=hI'.below (Below.refl _ _).drew;replace hbA:=hbA.drew;have hsx:=hrx.cells;have hsy:=hry.cells
 go_region_held3 (fun w'=>(w'.cell? ⟨w.heap.size,0,none⟩=some (.bool z0)/\w'.cell? ⟨w.heap.size,1,none⟩=some (.slice Z zn zc)/\w'.cell? ⟨w.heap.size,2,none⟩=some (.slice Z' zm ze))/\(w'.cell? ⟨w.heap.size+1,0,none⟩=some (.bool y0)/\w'.cell? ⟨w.heap.size+1,1,none⟩=some (.slice Y yn yc)/\w'.cell? ⟨w.heap.size+1,2,none⟩=some (.slice Y' ym ye)))
  (first|exact⟨hsx,hsy⟩|exact⟨⟨Qaa (by omega) hsx.1,Qaa (by omega) hsx.2.1,Qaa (by omega) hsx.2.2⟩,⟨Qaa (by omega) hsy.1,Qaa (by omega) hsy.2.1,Qaa (by omega) hsy.2.2⟩⟩)
  (first
   |(have _g:=hb4;go_at_call 56;refine(r_Add _ _ x (-y) _ (hI.below hb4) (h4.inr (Qsp sy) (by decide)) sx (Qsp sy)).mono ?_;rintro e' w5 ⟨v5,rfl,h5,hb5⟩;have hb45:=bt hb4 hb5;have hsx:=(hrx.below hb45 hgx).cells;have hsy:=(hry.below hb45 hgy).cells;have hrr5:=hrr.below hb45 hgr;obtain⟨nb5,A5,n5,c5,B5,m5,e5,rfl⟩:=h5.agg;obtain⟨r0,r1,r2⟩:=hrr5.cells;obtain⟨g0,g1,g2⟩:=hrr5.frozen)
   |(go_at_call 80;refine(r_Neg _ y _ hI').mono ?_;rintro e' w4 ⟨v4,rfl,h4,hb4⟩;have hsx:=(hrx.below hb4 hgx).cells;have hsy:=(hry.below hb4 hgy).cells))
 go_wp2_with fail
 refine Qa8 results54 rfl (hrr5.set _ _ _) rfl ?_;rw [HR.out];exact⟨_,rfl,h5.set3 hrr5 _ _ _,Qai (bt hbA hb45) (by omega) _ _ _⟩
theorem Qs7(v v':Value)(x y:Rat)(w:World)(h:Inr w v x)(h':Inr w v' y)(sx:Sz x 400000)(sy:Sz y 400000):Calls prog 76 #[v,v'] w (RetV w (.int .i64 (x-y).num.sign)):=by
 obtain⟨z0,Z,zn,zc,Z',zm,ze,rfl⟩:=h.agg;obtain⟨y0,Y,yn,yc,Y',ym,ye,rfl⟩:=h'.agg;obtain⟨hbA,hrx,hry⟩:=blocks2 w (.bool z0) (.slice Z zn zc) (.slice Z' zm ze) (.bool y0) (.slice Y yn yc) (.slice Y' ym ye);go_enter func76,ntmps76;have hI:=h.below hbA;have hI':=h'.below hbA;go_wp2_with fail
 refine(r_Sub _ _ x y _ hI hI' sx sy).mono ?_;rintro e w1 ⟨v1,rfl,h1,hb1⟩;go_wp2_with fail
 refine(Qxe _ (x-y) _ (h1.inr (sz_sub sx sy (le_refl _)) (by decide))).mono ?_;rintro e w2 ⟨rfl,hb2⟩;go_wp2_with fail
 go_ret;exact⟨rfl,hbA.trans ((bt hb1 hb2).mono hbA.size)⟩
end Go.Proofs.YthbhgelncdnmgaaGreatDoor
