import Derived.Test.YthbhgelncdnmgaaGreatDoorY46
import Derived.Test.YthbhgelncdnmgaaGreatDoorY18
import Derived.Test.YthbhgelncdnmgaaGreatDoorY43
set_option linter.unusedVariables false
set_option linter.unusedSimpArgs false
set_option maxRecDepth 20000
set_option maxHeartbeats 8000000
namespace Go.Proofs.YthbhgelncdnmgaaGreatDoor
open Go.Proofs.Tryz
open Lib (hid)
open Nat (le_refl le_trans zero_le)
open Go.RowKit
theorem sz_fq2{w:World}{neg:Bool}{ln ld:List Nat}{A A':Option Addr}{n c m c':Nat}(h1:Num w ln A n c)(h2:Num w ld A' m c')(hl:ln.length<=2)(hl':ld.length<=2):Sz (fq neg ln ld) 2:=by
 by_cases hv:vld neg ln ld=true
 ·obtain⟨e1,e2,e3,e4,e5⟩:=Qfw h1.lim h2.lim hv
  have hf:fq neg ln ld=qv neg (val ln) (dv ld):=by unfold fq;rw [if_pos hv]
  rw [hf];refine sz_qv e3 e4 (by rw [<-e1];exact hl) ?_;by_cases h1:dv ld=1
  ·rw [h1,Qay];decide
  ·rw [<-Qj1 h1,<-e2];exact hl'
 ·have hf:fq neg ln ld=0:=by unfold fq;rw [if_neg hv]
  rw [hf];exact Qcw 2 (by decide)
theorem Qze{w:World}{v:Value}{neg:Bool}{ln ld:List Nat}(h:Fld w v neg ln ld)(hl:ln.length<=2)(hl':ld.length<=2):Inp w v (fq neg ln ld) 2/\Inr w v (fq neg ln ld)/\Sz (fq neg ln ld) 2:=by
 obtain⟨A,n,c,A',m,c',rfl,h1,h2⟩:=h.out;have hs:=sz_fq2 (neg:=neg) h1 h2 hl hl';have k1:=h1.len;have k2:=h2.len;exact⟨⟨neg,A,n,c,A',m,c',ln,ld,rfl,h1,h2,by omega,by omega,rfl,hs⟩,⟨neg,A,n,c,A',m,c',ln,ld,rfl,h1,h2,by omega,by omega,rfl⟩,hs⟩
theorem PRaw.pre{w:World}{A:Option Addr}{n c:Nat}{l:List FldM}(h:PRaw w A n c l)(hl:lightL l=true):PRe w (.slice A n c) (ratL l):=by
 obtain⟨xs,h1,h2,h3⟩:=h.out;have h8:=Qp7 hl;refine⟨⟨A,n,c,xs,rfl,h1,by rw [h2];unfold ratL;rw [List.length_map],fun i e q hi=>?_⟩,by unfold ratL;rw [List.length_map];omega⟩;unfold ratL at hi;rw [List.getElem?_map]at hi;obtain⟨m,hm,he⟩:=Option.map_eq_some_iff.1 hi;obtain⟨z0,z1,z2,a,b⟩:=h3 i m hm;have hm2:=Qp8 hl (List.mem_of_getElem? hm);simp only [Prod.mk.injEq]at he;obtain⟨rfl,rfl⟩:=he;exact⟨z0,z1,z2,a,(Qze b hm2.1 hm2.2).2.1⟩
structure SzS (L:Nat) (a:SV):Prop where
 q:Sz a.q L
 p:SzL a.p L
theorem SzS.mono{L M:Nat}{a:SV}(h:SzS L a)(hm:L<=M):SzS M a:=⟨h.q.mono hm,h.p.mono hm⟩
theorem Qhe(L:Nat):SzL [] L:=fun _ h=>by cases h
theorem Qwx{L:Nat}{x:Rat}(h:Sz x L):SzS L (svQ x):=⟨h,Qhe L⟩
theorem szS_P{L:Nat}{p:List Mon}(hL:1<=L)(h:SzL p L):SzS L (svP p):=⟨Qcw L hL,h⟩
theorem Qzf{L:Nat}(hL:1<=L)(c:Int)(i:Bool):SzS L (svC c i):=⟨Qcw L hL,Qhe L⟩
theorem szS_S{L:Nat}(hL:1<=L)(s:Nat):SzS L (svS s):=⟨Qcw L hL,Qhe L⟩
theorem Qul{L:Nat}(hL:1<=L):SzS L svZ:=⟨Qcw L hL,Qhe L⟩
theorem Qii{L:Nat}(hL:1<=L)(k:Nat):SzS L (zeroK k):=by
 unfold zeroK;split
 ·exact Qzf hL _ _
 ·exact Qul hL
theorem Qph{L:Nat}(hL:1<=L):∀k,1<=k->k<=5->SzS L (oneK k):=kinds5 (Qwx (Qkj L hL)) (Qul hL) (Qwx (Qkj L hL)) (szS_S hL _) (szS_P hL (Quk (Qkj L hL) hL))
structure SzW (L:Nat) (x:CW):Prop where
 own:SzS L x.1
 parts:∀a∈x.2,SzS L a
theorem SzW.mono{L M:Nat}{x:CW}(h:SzW L x)(hm:L<=M):SzW M x:=⟨h.own.mono hm,fun a ha=>(h.parts a ha).mono hm⟩
theorem Qga{L:Nat}(hL:1<=L):∀r:Rg,SzW L (zeroR r)
 | .one k=>⟨Qii hL k,fun _ h=>by cases h⟩
 | .prod ks=>⟨Qul hL,fun a ha=>by
   obtain⟨k,_,rfl⟩:=List.mem_map.1 ha;exact Qii hL k⟩
theorem Qn7{L:Nat}(hL:1<=L):∀ {r:Rg},okRg r->SzW L (oneR r)
 | .one k,hr=>⟨Qph hL k hr.1 hr.2,fun _ h=>by cases h⟩
 | .prod ks,hr=>⟨Qul hL,fun a ha=>by
   obtain⟨k,hk,rfl⟩:=List.mem_map.1 ha;exact Qph hL k (hr.2.2 k hk).1 (hr.2.2 k hk).2⟩
theorem Qku{q:Rat}{L:Nat}(h:Sz q L):(dl q.den).length<=L:=by
 unfold dl;split
 ·exact zero_le _
 ·exact h.2
theorem Qum{k L:Nat}(h1:1<=k)(h5:k<=5){a:SV}(h:okK k a)(hs:SzS L a):SzD L 56 (dOf a):=by
 refine .mk hs.q.1 (Qku hs.q) ?_ (fun m hm=>?_) (zero_le _) (fun d hd=>by cases hd)
 ·rw [List.length_map]
  revert h;exact kinds5 (P:=fun k=>okK k a->a.p.length<=56) (fun h=>by rw [h];exact zero_le _) (fun h=>by rw [h.1];exact zero_le _) (fun h=>by rw [h.1];exact zero_le _) (fun h=>by rw [h.1];exact zero_le _) (fun h=>Qc9 h.2) k h1 h5
 ·obtain⟨x,hx,rfl⟩:=List.mem_map.1 hm
  exact⟨(hs.p x hx).1,Qku (hs.p x hx)⟩
theorem Qmz{L:Nat}:∀ {ks:List Nat} {us:List SV},(∀k∈ks,kind5 k)->okL ks us->(∀a∈us,SzS L a)->∀d∈us.map dOf,SzD L 56 d
 |[],[],_,_,_,d,hd=>by cases hd
 |k::ks,a::us,hk,h,hs,d,hd=>by
  rcases List.mem_cons.1 (show d∈dOf a::us.map dOf from hd)with rfl|hd
  ·exact Qum (hk k (by simp)).1 (hk k (by simp)).2 h.1 (hs a (by simp))
  ·exact Qmz (fun j hj=>hk j (by simp [hj])) h.2 (fun x hx=>hs x (by simp [hx])) d hd
 |[],_::_,_,h,_,_,_=>h.elim
 |_::_,[],_,h,_,_,_=>h.elim
theorem Qeu{L:Nat}:∀ {r:Rg},okRg r->∀ {x:CW},okW r x->SzW L x->SzD L 56 (dOfW x)
 | .one k,hr,(a,l),h,hs=>by
   obtain⟨h1,h2⟩:=h;have h2':l=[]:=h2;subst h2';exact Qum hr.1 hr.2 h1 hs.own
 | .prod ks,hr,(a,l),h,hs=>by
   obtain⟨h1,h2⟩:=h;have h1':a=svZ:=h1;subst h1';refine .mk hs.own.q.1 (Qku hs.own.q) (zero_le _) (fun m hm=>by cases hm) ?_ (Qmz hr.2.2 h2 hs.parts);rw [List.length_map,Qsr h2];have:=hr.2.1;omega
theorem Qm0:∀ {ks:List Nat} {us:List SV},(∀k∈ks,kind5 k)->okL ks us->∀d∈us.map dOf,bits d
 |[],[],_,_,d,hd=>by cases hd
 |k::ks,a::us,hk,h,d,hd=>by
  rcases List.mem_cons.1 (show d∈dOf a::us.map dOf from hd)with rfl|hd
  ·exact Qo4 (hk k (by simp)).1 (hk k (by simp)).2 h.1
  ·exact Qm0 (fun j hj=>hk j (by simp [hj])) h.2 d hd
 |[],_::_,_,h,_,_=>h.elim
 |_::_,[],_,h,_,_=>h.elim
theorem Qdg:∀ {r:Rg},okRg r->∀ {x:CW},okW r x->bits (dOfW x)
 | .one k,hr,(a,l),h=>by
   obtain⟨h1,h2⟩:=h;have h2':l=[]:=h2;subst h2';exact Qo4 hr.1 hr.2 h1
 | .prod ks,hr,(a,l),h=>by
   obtain⟨h1,h2⟩:=h;have h1':a=svZ:=h1;subst h1';exact .mk ⟨by show(0:Int)<=((0:Nat):Int);omega,by show((0:Nat):Int)<=_;omega⟩ (Qm0 hr.2.2 h2)
variable {E:Rg->World->Value->Value->Value->Prop}
theorem Qhf:∀ {r:Rg},okRg r->∀d:WD,okC r (cleanW r d)/\valR r (cleanW r d)=takeR r d
 | .one k,hr,d=>⟨Qvm hr.1 hr.2 d,by rw [Qhz,Qp9 k hr.1 hr.2 d];rfl⟩
 | .prod ks,hr,d=>by
   by_cases h:chkR (.prod ks) d
   ·have e:cleanW (.prod ks) d=d:=by unfold cleanW;exact if_pos h
    rw [e];exact⟨h,(Qda h).symm⟩
   ·have e:cleanW (.prod ks) d=dOfW (zeroR (.prod ks)):=by unfold cleanW;exact if_neg h
    obtain⟨h1,h2⟩:=Qco hr (Qca hr);rw [e];refine⟨h1,?_⟩;rw [Qda h1]at h2;rw [h2,Qd9 h]
theorem Qij{r:Rg}(hr:okRg r)(d:WD):cleanW r d=d\/cleanW r d=dOfW (zeroR r):=by
 cases r with
 |one k=>
  by_cases h:ck k d
  ·exact .inl (Qch h)
  ·exact .inr (Qci h)
 |prod ks=>
  by_cases h:chkR (.prod ks) d
  ·left;unfold cleanW;exact if_pos h
  ·right;unfold cleanW;exact if_neg h
theorem Qwy{r:Rg}(hr:okRg r):SzK (dOfW (zeroR r)):=(Qeu hr (Qca hr) (Qga (L:=1) (by decide) r)).up (by decide) (by decide)
theorem Qgb{r:Rg}(hr:okRg r){d:WD}(h:SzK d):SzK (cleanW r d):=by
 rcases Qij hr d with e|e<;>rw [e]
 ·exact h
 ·exact Qwy hr
theorem Qev{r:Rg}(hr:okRg r){d:WD}(h:bits d):bits (cleanW r d):=by
 rcases Qij hr d with e|e<;>rw [e]
 ·exact h
 ·exact Qdg hr (Qca hr)
def VD(d:WD)(w:World)(v:Value):Prop:=∃l:List Value,v=.agg l.toArray/\WRd w l d
theorem VD.below{d:WD}{w w':World}{v:Value}(h:VD d w v)(hb:Below w.heap.size w w'):VD d w' v:=by
 obtain⟨l,e,h⟩:=h;exact⟨l,e,h.keep hb⟩
def VX(S:Nat)(d:WD)(w:World)(v:Value):Prop:=∃l:List Value,v=.agg l.toArray/\WSt 0 S w l d
theorem VX.below{S:Nat}{d:WD}{w w':World}{v:Value}(h:VX S d w v)(hb:Below w.heap.size w w'):VX S d w' v:=by
 obtain⟨l,e,h⟩:=h;exact⟨l,e,h.step (Wch.of_below hb)⟩
theorem Qun(hE:EOk E)(r:Rg)(k:Int)(l:List Int)(A:Option Addr)(n c:Nat)(w:World)(hT:Tab w)(h:IntR w l A n c)(hr:ringOf k l=some r)(d d2:WD)(x y:List Value)(hx:WRd w x d)(hy:WRd w y d2)(sd:SzK d)(sd2:SzK d2)(bd:bits d)(bd2:bits d2):Calls prog 26 #[.agg #[.int .i64 k,.slice A n c],.agg x.toArray,.agg y.toArray] w (RetX 0 w (dOfW (plusR r (takeR r d) (takeR r d2)))):=by
 obtain⟨A1,n1,c1,B1,m1,e1,P1,p1,r1,Q1,q1,s1,rfl,_⟩:=hx.shape;obtain⟨A3,n3,c3,B3,m3,e3,P3,p3,r3,Q3,q3,s3,rfl,_⟩:=hy.shape;show Calls _ _ #[_,.agg #[.bool d.neg,.slice A1 n1 c1,.slice B1 m1 e1,.int .i64 d.c,.bool d.i,.int .u64 d.s,.slice P1 p1 r1,.slice Q1 q1 s1],.agg #[.bool d2.neg,.slice A3 n3 c3,.slice B3 m3 e3,.int .i64 d2.c,.bool d2.i,.int .u64 d2.s,.slice P3 p3 r3,.slice Q3 q3 s3]] _ _;obtain⟨hb0,k0,k1,k2,k3⟩:=blk4 w [.int .i64 k,.slice A n c] [.bool d.neg,.slice A1 n1 c1,.slice B1 m1 e1,.int .i64 d.c,.bool d.i,.int .u64 d.s,.slice P1 p1 r1,.slice Q1 q1 s1] [.bool d2.neg,.slice A3 n3 c3,.slice B3 m3 e3,.int .i64 d2.c,.bool d2.i,.int .u64 d2.s,.slice P3 p3 r3,.slice Q3 q3 s3] [.bool false,.slice none 0 0,.slice none 0 0,.int .i64 0,.bool false,.int .u64 0,.slice none 0 0,.slice none 0 0] 24 32 32 32;have hok:=Qbp hr;have HF:=hid (Qmq hE r k l A n c _ (h.below hb0) hr);have HT:=hid hT;have HX:=hid hx;have HY:=hid hy;have HSD:=hid (And.intro sd (And.intro sd2 (And.intro bd bd2)));have HOK:=hid hok;clear h hr hT k0 hx hy sd sd2 bd bd2 hok;go_enter func26,ntmps26;go_wp2_with fail
 refine HF.out.mono ?_;rintro e w1 ⟨l2,rfl,hl,hb1⟩;obtain⟨_,_,_,_,_,_,_,_,_,_,rfl,⟨n0,A0,rfl,E0,h0⟩,⟨n1_,A1_,rfl,E1,h1⟩,⟨n2,A2,rfl,E2,h2⟩,⟨n3_,A3_,rfl,E3,h3⟩,⟨n4,A4,rfl,E4,h4⟩,⟨n5,A5,rfl,E5,h5⟩,⟨n7,A7,rfl,E7,h7⟩,⟨n6,A6,rfl⟩,⟨n8,A8,rfl⟩,⟨n9,A9,rfl⟩,_⟩:=hl.out;replace hb0:=bt hb0 hb1;replace k1:=k1.below hb1 k1.lt;replace k2:=k2.below hb1 k2.lt;replace k3:=k3.below hb1 k3.lt;clear hb1;have HW1:=hid (And.intro k1 (And.intro k2 k3));have HB1:=hid hb0;clear k1 k2 k3 hb0;go_wp2_with fail
 obtain⟨hbl,k7⟩:=blk1 w1 [.func (.func n0) #[] A0,.func (.func n1_) #[] A1_,.func (.func n2) #[] A2,.func (.func n3_) #[] A3_,.func (.func n4) #[] A4,.func (.func n5) #[] A5,.func (.func n6) #[] A6,.func (.func n7) #[] A7,.func (.func n8) #[] A8,.func (.func n9) #[] A9] 63;have hb3:=bt HB1.out hbl;obtain⟨W5,hW5⟩:∃W,W=w1.alloc (.cells #[.func (.func n0) #[] A0,.func (.func n1_) #[] A1_,.func (.func n2) #[] A2,.func (.func n3_) #[] A3_,.func (.func n4) #[] A4,.func (.func n5) #[] A5,.func (.func n6) #[] A6,.func (.func n7) #[] A7,.func (.func n8) #[] A8,.func (.func n9) #[] A9] 63):=⟨_,rfl⟩;have HWX:=hid hW5.symm;obtain⟨g7,hg7⟩:∃g,w1.heap.size=g:=⟨_,rfl⟩;have hb5:Below w.heap.size w W5.drew:=by rw [hW5];exact hb3.drew
 have hbw:Below w1.heap.size w1 W5.drew:=by rw [hW5];exact hbl.drew
 have KX:Hid (∀wx,Below W5.drew.heap.size W5.drew wx->(wx.cell? ⟨g7,4,none⟩=some (.func (.func n4) #[] A4)/\wx.cell? ⟨g7,1,none⟩=some (.func (.func n1_) #[] A1_))/\(wx.cell? ⟨w.heap.size+1,0,none⟩=some (.bool d.neg)/\wx.cell? ⟨w.heap.size+1,1,none⟩=some (.slice A1 n1 c1)/\wx.cell? ⟨w.heap.size+1,2,none⟩=some (.slice B1 m1 e1)/\wx.cell? ⟨w.heap.size+1,3,none⟩=some (.int .i64 d.c)/\wx.cell? ⟨w.heap.size+1,4,none⟩=some (.bool d.i)/\wx.cell? ⟨w.heap.size+1,5,none⟩=some (.int .u64 d.s)/\wx.cell? ⟨w.heap.size+1,6,none⟩=some (.slice P1 p1 r1)/\wx.cell? ⟨w.heap.size+1,7,none⟩=some (.slice Q1 q1 s1))/\(wx.cell? ⟨w.heap.size+1+1,0,none⟩=some (.bool d2.neg)/\wx.cell? ⟨w.heap.size+1+1,1,none⟩=some (.slice A3 n3 c3)/\wx.cell? ⟨w.heap.size+1+1,2,none⟩=some (.slice B3 m3 e3)/\wx.cell? ⟨w.heap.size+1+1,3,none⟩=some (.int .i64 d2.c)/\wx.cell? ⟨w.heap.size+1+1,4,none⟩=some (.bool d2.i)/\wx.cell? ⟨w.heap.size+1+1,5,none⟩=some (.int .u64 d2.s)/\wx.cell? ⟨w.heap.size+1+1,6,none⟩=some (.slice P3 p3 r3)/\wx.cell? ⟨w.heap.size+1+1,7,none⟩=some (.slice Q3 q3 s3))):=hid (fun wx hB=>by
  have hbx:=bt hbw hB;have k7x:Cs W5.drew g7 [.func (.func n0) #[] A0,.func (.func n1_) #[] A1_,.func (.func n2) #[] A2,.func (.func n3_) #[] A3_,.func (.func n4) #[] A4,.func (.func n5) #[] A5,.func (.func n6) #[] A6,.func (.func n7) #[] A7,.func (.func n8) #[] A8,.func (.func n9) #[] A9] 63:=by rw [hW5,<-hg7];exact k7.drew
  exact⟨⟨(k7x.below hB k7x.lt).cell rfl,(k7x.below hB k7x.lt).cell rfl⟩,(HW1.out.1.below hbx HW1.out.1.lt).c8,(HW1.out.2.1.below hbx HW1.out.2.1.lt).c8⟩)
 unfold Ent at E1 E4;have HCL1:Hid (∀wx,Below W5.drew.heap.size W5.drew wx->Calls prog n1_ (#[.agg #[.bool d.neg,.slice A1 n1 c1,.slice B1 m1 e1,.int .i64 d.c,.bool d.i,.int .u64 d.s,.slice P1 p1 r1,.slice Q1 q1 s1]]++A1_) wx (RetX w.heap.size wx (cleanW r d))):=hid (fun wx hB=>by
  have hbx:=bt hb5 hB;exact h1 wx (bt hbw hB) _ _ ⟨_,d,w,rfl,HT.out.below hbx,HX.out,hbx,HSD.out.1,rfl⟩)
 have HCL2:Hid (∀wx,Below W5.drew.heap.size W5.drew wx->Calls prog n1_ (#[.agg #[.bool d2.neg,.slice A3 n3 c3,.slice B3 m3 e3,.int .i64 d2.c,.bool d2.i,.int .u64 d2.s,.slice P3 p3 r3,.slice Q3 q3 s3]]++A1_) wx (RetX w.heap.size wx (cleanW r d2))):=hid (fun wx hB=>by
  have hbx:=bt hb5 hB;exact h1 wx (bt hbw hB) _ _ ⟨_,d2,w,rfl,HT.out.below hbx,HY.out,hbx,HSD.out.2.1,rfl⟩)
 have HOP:Hid (∀wx,Below W5.drew.heap.size W5.drew wx->∀l1 l2:List Value,WRd wx l1 (cleanW r d)->WRd wx l2 (cleanW r d2)->Calls prog n4 (#[.agg l1.toArray,.agg l2.toArray]++A4) wx (RetX 0 wx (dOfW (plusR r (takeR r d) (takeR r d2))))):=hid (fun wx hB l1 l2 hl1 hl2=>by
  have hbx:=bt hb5 hB;obtain⟨o1,v1⟩:=Qhf HOK.out d;obtain⟨o2,v2⟩:=Qhf HOK.out d2;rw [<-v1,<-v2];have:=h4 wx (bt hbw hB) _ _ ⟨l1,l2,_,_,rfl,HT.out.below hbx,hl1,hl2,Qgb HOK.out HSD.out.1,Qgb HOK.out HSD.out.2.1,o1,o2,Qev HOK.out HSD.out.2.2.1,Qev HOK.out HSD.out.2.2.2,rfl⟩;exact this)
 have HB:=hid hb5;have K3:Hid (Cs W5.drew (w.heap.size+1+1+1) [.bool false,.slice none 0 0,.slice none 0 0,.int .i64 0,.bool false,.int .u64 0,.slice none 0 0,.slice none 0 0] 32):=hid (HW1.out.2.2.below hbw HW1.out.2.2.lt);obtain⟨S0,hS0⟩:∃S,W5.drew.heap.size=S:=⟨_,rfl⟩;have HS0:Hid (w.heap.size+1+1+1<S0/\S0=W5.drew.heap.size):=hid ⟨by rw [<-hS0];exact K3.out.lt,hS0.symm⟩;clear h0 h1 h2 h3 h4 h5 h7 hl hbl k7 hb3 hb5 hbw hS0 HW1 HB1 HF;rw [HWX.out];rw [hg7];clear hW5 hg7;refine Qan 11 (17::18::19::20::21::22::23::24::25::26::27::[]) (Sq.val (.pointer (some ⟨g7,4,none⟩))::Sq.val (.func (.func n4) #[] A4)::Sq.val (.pointer (some ⟨g7,1,none⟩))::Sq.val (.func (.func n1_) #[] A1_)::Sq.val (.agg #[.bool d.neg,.slice A1 n1 c1,.slice B1 m1 e1,.int .i64 d.c,.bool d.i,.int .u64 d.s,.slice P1 p1 r1,.slice Q1 q1 s1])::Sq.st (fun w a=>VD (cleanW r d) w a)::Sq.val (.pointer (some ⟨g7,1,none⟩))::Sq.val (.func (.func n1_) #[] A1_)::Sq.val (.agg #[.bool d2.neg,.slice A3 n3 c3,.slice B3 m3 e3,.int .i64 d2.c,.bool d2.i,.int .u64 d2.s,.slice P3 p3 r3,.slice Q3 q3 s3])::Sq.st (fun w a=>VD (cleanW r d2) w a)::Sq.st (fun w a=>VX S0 (dOfW (plusR r (takeR r d) (takeR r d2))) w a)::[]) (by kernel_rfl) (by kernel_rfl) (by kernel_rfl) (by kernel_rfl) ?step 1 (by kernel_rfl) _ rfl ?fin
 case step=>
  intro i hi oi ho f wx hB hdep K hK;simp only [frontAct,zf1,zf2,zf3,zf4,zf5]at hK⊢;obtain⟨⟨y0,y1⟩,⟨x0,x1,x2,x3,x4,x5,x6,x7⟩,⟨z0,z1,z2,z3,z4,z5,z6,z7⟩⟩:=KX.out wx hB;iterate 11 rcases Nat.lt_or_eq_of_le (Nat.le_of_lt_succ hi)with hi|rfl
  exact absurd hi (Nat.not_lt_zero _);all_goals
   obtain rfl:=Option.some.inj ho;clear ho;simp only [Act.put,zf3,zf4,zf5]at hK
  rotate_left 5
  ·simp [gOf6,Sq.holds,Region.binds]at hdep
   simp only [hdep]at hK⊢;go_simp;refine(HCL1.out wx hB).mono ?_;rintro e0 w' ⟨l,rfl,hl,hb⟩;exact hK (.agg l.toArray) w' (gs6 rfl (fun w2 h2=>VD.below ⟨l,rfl,hl.rd⟩ h2)) hb (bt hB hb) (nb6 rfl rfl)
  rotate_left 3
  ·simp [gOf6,Sq.holds,Region.binds]at hdep
   simp only [hdep]at hK⊢;go_simp;refine(HCL2.out wx hB).mono ?_;rintro e0 w' ⟨l,rfl,hl,hb⟩;exact hK (.agg l.toArray) w' (gs6 rfl (fun w2 h2=>VD.below ⟨l,rfl,hl.rd⟩ h2)) hb (bt hB hb) (nb6 rfl rfl)
  ·have e18:=dv6 (hdep ⟨1,.data⟩ (by simp) rfl) rfl
   have e22:=ds6 (hdep ⟨5,.data⟩ (by simp) rfl) rfl;have e26:=ds6 (hdep ⟨9,.data⟩ (by simp) rfl) rfl;simp only [zf6,zf7]at e18 e22 e26;generalize f 18=f18 at*;subst e18;replace e22:=(show VD (cleanW r d) wx (f 22)from e22);generalize f 22=f22 at*
   replace e26:=(show VD (cleanW r d2) wx (f 26)from e26);generalize f 26=f26 at*
   obtain⟨l1,rfl,hl1⟩:=e22;obtain⟨l2,rfl,hl2⟩:=e26;go_simp;refine(HOP.out wx hB l1 l2 hl1 hl2).mono ?_;rintro e0 w' ⟨l,rfl,hl,hb⟩;exact hK (.agg l.toArray) w' (gs6 rfl (fun w2 h2=>VX.below ⟨l,rfl,hl.mono (le_refl _) (by have:=HS0.out.2;have:=hB.size;omega)⟩ h2)) hb (bt hB hb) (nb6 rfl rfl)
  all_goals simp [gOf6,Sq.holds,Region.binds]at hdep
  all_goals try simp only [hdep]at hK⊢
  all_goals go_simp
  all_goals exact hK _ wx (gv6 rfl) (Below.refl _ _) hB (nb6 rfl rfl)
 case fin=>
  intro f wx hB hG hne;have e27:VX S0 (dOfW (plusR r (takeR r d) (takeR r d2))) wx (f 27):=ds6 (hG 10 (by decide)) rfl;clear hG hne;simp only [frontAct,zf1,zf2,zf3,zf4,zf5];generalize f 27=fL at*
  obtain⟨l9,rfl,hl⟩:=e27;obtain⟨A',n',c',B',m',e',P',p',r',Q',q',s',rfl,_⟩:=hl.rd.shape;have k3:=K3.out.below hB K3.out.lt;have HEND:=hid (bt HB.out hB);have HL:=hid hl;clear hB hl;obtain⟨g0,g1,g2,g3,g4,g5,g6,g77⟩:=k3.f8;obtain⟨b0,b1,b2,b3,b4,b5,b6,b7⟩:=k3.c8;refine wpAny_ready (rs:=[11]) (by kernel_rfl) (by simp) ?_;refine AllReady.cons rfl (fun K hK=>?_) AllReady.nil;have HQ:=hid hK;clear hK;go_simp;clear g0 g1 g2 g3 g4 g5 g6 g77 b0 b1 b2 b3 b4 b5 b6 b7;refine HQ.out _ _ ?_;clear HQ K;refine wpAny_done (by kernel_rfl) ?_ _;go_wp2_with fail
  refine Qak (l:=[.bool (dOfW (plusR r (takeR r d) (takeR r d2))).neg,.slice A' n' c',.slice B' m' e',.int .i64 (dOfW (plusR r (takeR r d) (takeR r d2))).c,.bool (dOfW (plusR r (takeR r d) (takeR r d2))).i,.int .u64 (dOfW (plusR r (takeR r d) (takeR r d2))).s,.slice P' p' r',.slice Q' q' s']) results26 underlying32 (by kernel_rfl) rfl (Qaj k3 rfl _ _ _ _ _ _ _ _) rfl ?_;exact Qd2 HL.out HS0.out.1 (zero_le _) (by omega) HEND.out k3 rfl
theorem Quo(hE:EOk E)(r:Rg)(k:Int)(l:List Int)(A:Option Addr)(n c:Nat)(w:World)(hT:Tab w)(h:IntR w l A n c)(hr:ringOf k l=some r)(d d2:WD)(x y:List Value)(hx:WRd w x d)(hy:WRd w y d2)(sd:SzK d)(sd2:SzK d2)(bd:bits d)(bd2:bits d2):Calls prog 28 #[.agg #[.int .i64 k,.slice A n c],.agg x.toArray,.agg y.toArray] w (RetX 0 w (dOfW (timesR r (takeR r d) (takeR r d2)))):=by
 obtain⟨A1,n1,c1,B1,m1,e1,P1,p1,r1,Q1,q1,s1,rfl,_⟩:=hx.shape;obtain⟨A3,n3,c3,B3,m3,e3,P3,p3,r3,Q3,q3,s3,rfl,_⟩:=hy.shape;show Calls _ _ #[_,.agg #[.bool d.neg,.slice A1 n1 c1,.slice B1 m1 e1,.int .i64 d.c,.bool d.i,.int .u64 d.s,.slice P1 p1 r1,.slice Q1 q1 s1],.agg #[.bool d2.neg,.slice A3 n3 c3,.slice B3 m3 e3,.int .i64 d2.c,.bool d2.i,.int .u64 d2.s,.slice P3 p3 r3,.slice Q3 q3 s3]] _ _;obtain⟨hb0,k0,k1,k2,k3⟩:=blk4 w [.int .i64 k,.slice A n c] [.bool d.neg,.slice A1 n1 c1,.slice B1 m1 e1,.int .i64 d.c,.bool d.i,.int .u64 d.s,.slice P1 p1 r1,.slice Q1 q1 s1] [.bool d2.neg,.slice A3 n3 c3,.slice B3 m3 e3,.int .i64 d2.c,.bool d2.i,.int .u64 d2.s,.slice P3 p3 r3,.slice Q3 q3 s3] [.bool false,.slice none 0 0,.slice none 0 0,.int .i64 0,.bool false,.int .u64 0,.slice none 0 0,.slice none 0 0] 24 32 32 32;have hok:=Qbp hr;have HF:=hid (Qmq hE r k l A n c _ (h.below hb0) hr);have HT:=hid hT;have HX:=hid hx;have HY:=hid hy;have HSD:=hid (And.intro sd (And.intro sd2 (And.intro bd bd2)));have HOK:=hid hok;clear h hr hT k0 hx hy sd sd2 bd bd2 hok;go_enter func28,ntmps28;go_wp2_with fail
 refine HF.out.mono ?_;rintro e w1 ⟨l2,rfl,hl,hb1⟩;obtain⟨_,_,_,_,_,_,_,_,_,_,rfl,⟨n0,A0,rfl,E0,h0⟩,⟨n1_,A1_,rfl,E1,h1⟩,⟨n2,A2,rfl,E2,h2⟩,⟨n3_,A3_,rfl,E3,h3⟩,⟨n4,A4,rfl,E4,h4⟩,⟨n5,A5,rfl,E5,h5⟩,⟨n7,A7,rfl,E7,h7⟩,⟨n6,A6,rfl⟩,⟨n8,A8,rfl⟩,⟨n9,A9,rfl⟩,_⟩:=hl.out;replace hb0:=bt hb0 hb1;replace k1:=k1.below hb1 k1.lt;replace k2:=k2.below hb1 k2.lt;replace k3:=k3.below hb1 k3.lt;clear hb1;have HW1:=hid (And.intro k1 (And.intro k2 k3));have HB1:=hid hb0;clear k1 k2 k3 hb0;go_wp2_with fail
 obtain⟨hbl,k7⟩:=blk1 w1 [.func (.func n0) #[] A0,.func (.func n1_) #[] A1_,.func (.func n2) #[] A2,.func (.func n3_) #[] A3_,.func (.func n4) #[] A4,.func (.func n5) #[] A5,.func (.func n6) #[] A6,.func (.func n7) #[] A7,.func (.func n8) #[] A8,.func (.func n9) #[] A9] 63;have hb3:=bt HB1.out hbl;obtain⟨W5,hW5⟩:∃W,W=w1.alloc (.cells #[.func (.func n0) #[] A0,.func (.func n1_) #[] A1_,.func (.func n2) #[] A2,.func (.func n3_) #[] A3_,.func (.func n4) #[] A4,.func (.func n5) #[] A5,.func (.func n6) #[] A6,.func (.func n7) #[] A7,.func (.func n8) #[] A8,.func (.func n9) #[] A9] 63):=⟨_,rfl⟩;have HWX:=hid hW5.symm;obtain⟨g7,hg7⟩:∃g,w1.heap.size=g:=⟨_,rfl⟩;have hb5:Below w.heap.size w W5.drew:=by rw [hW5];exact hb3.drew
 have hbw:Below w1.heap.size w1 W5.drew:=by rw [hW5];exact hbl.drew
 have KX:Hid (∀wx,Below W5.drew.heap.size W5.drew wx->(wx.cell? ⟨g7,5,none⟩=some (.func (.func n5) #[] A5)/\wx.cell? ⟨g7,1,none⟩=some (.func (.func n1_) #[] A1_))/\(wx.cell? ⟨w.heap.size+1,0,none⟩=some (.bool d.neg)/\wx.cell? ⟨w.heap.size+1,1,none⟩=some (.slice A1 n1 c1)/\wx.cell? ⟨w.heap.size+1,2,none⟩=some (.slice B1 m1 e1)/\wx.cell? ⟨w.heap.size+1,3,none⟩=some (.int .i64 d.c)/\wx.cell? ⟨w.heap.size+1,4,none⟩=some (.bool d.i)/\wx.cell? ⟨w.heap.size+1,5,none⟩=some (.int .u64 d.s)/\wx.cell? ⟨w.heap.size+1,6,none⟩=some (.slice P1 p1 r1)/\wx.cell? ⟨w.heap.size+1,7,none⟩=some (.slice Q1 q1 s1))/\(wx.cell? ⟨w.heap.size+1+1,0,none⟩=some (.bool d2.neg)/\wx.cell? ⟨w.heap.size+1+1,1,none⟩=some (.slice A3 n3 c3)/\wx.cell? ⟨w.heap.size+1+1,2,none⟩=some (.slice B3 m3 e3)/\wx.cell? ⟨w.heap.size+1+1,3,none⟩=some (.int .i64 d2.c)/\wx.cell? ⟨w.heap.size+1+1,4,none⟩=some (.bool d2.i)/\wx.cell? ⟨w.heap.size+1+1,5,none⟩=some (.int .u64 d2.s)/\wx.cell? ⟨w.heap.size+1+1,6,none⟩=some (.slice P3 p3 r3)/\wx.cell? ⟨w.heap.size+1+1,7,none⟩=some (.slice Q3 q3 s3))):=hid (fun wx hB=>by
  have hbx:=bt hbw hB;have k7x:Cs W5.drew g7 [.func (.func n0) #[] A0,.func (.func n1_) #[] A1_,.func (.func n2) #[] A2,.func (.func n3_) #[] A3_,.func (.func n4) #[] A4,.func (.func n5) #[] A5,.func (.func n6) #[] A6,.func (.func n7) #[] A7,.func (.func n8) #[] A8,.func (.func n9) #[] A9] 63:=by rw [hW5,<-hg7];exact k7.drew
  exact⟨⟨(k7x.below hB k7x.lt).cell rfl,(k7x.below hB k7x.lt).cell rfl⟩,(HW1.out.1.below hbx HW1.out.1.lt).c8,(HW1.out.2.1.below hbx HW1.out.2.1.lt).c8⟩)
 unfold Ent at E1 E5;have HCL1:Hid (∀wx,Below W5.drew.heap.size W5.drew wx->Calls prog n1_ (#[.agg #[.bool d.neg,.slice A1 n1 c1,.slice B1 m1 e1,.int .i64 d.c,.bool d.i,.int .u64 d.s,.slice P1 p1 r1,.slice Q1 q1 s1]]++A1_) wx (RetX w.heap.size wx (cleanW r d))):=hid (fun wx hB=>by
  have hbx:=bt hb5 hB;exact h1 wx (bt hbw hB) _ _ ⟨_,d,w,rfl,HT.out.below hbx,HX.out,hbx,HSD.out.1,rfl⟩)
 have HCL2:Hid (∀wx,Below W5.drew.heap.size W5.drew wx->Calls prog n1_ (#[.agg #[.bool d2.neg,.slice A3 n3 c3,.slice B3 m3 e3,.int .i64 d2.c,.bool d2.i,.int .u64 d2.s,.slice P3 p3 r3,.slice Q3 q3 s3]]++A1_) wx (RetX w.heap.size wx (cleanW r d2))):=hid (fun wx hB=>by
  have hbx:=bt hb5 hB;exact h1 wx (bt hbw hB) _ _ ⟨_,d2,w,rfl,HT.out.below hbx,HY.out,hbx,HSD.out.2.1,rfl⟩)
 have HOP:Hid (∀wx,Below W5.drew.heap.size W5.drew wx->∀l1 l2:List Value,WRd wx l1 (cleanW r d)->WRd wx l2 (cleanW r d2)->Calls prog n5 (#[.agg l1.toArray,.agg l2.toArray]++A5) wx (RetX 0 wx (dOfW (timesR r (takeR r d) (takeR r d2))))):=hid (fun wx hB l1 l2 hl1 hl2=>by
  have hbx:=bt hb5 hB;obtain⟨o1,v1⟩:=Qhf HOK.out d;obtain⟨o2,v2⟩:=Qhf HOK.out d2;rw [<-v1,<-v2];have:=h5 wx (bt hbw hB) _ _ ⟨l1,l2,_,_,rfl,HT.out.below hbx,hl1,hl2,Qgb HOK.out HSD.out.1,Qgb HOK.out HSD.out.2.1,o1,o2,Qev HOK.out HSD.out.2.2.1,Qev HOK.out HSD.out.2.2.2,rfl⟩;exact this)
 have HB:=hid hb5;have K3:Hid (Cs W5.drew (w.heap.size+1+1+1) [.bool false,.slice none 0 0,.slice none 0 0,.int .i64 0,.bool false,.int .u64 0,.slice none 0 0,.slice none 0 0] 32):=hid (HW1.out.2.2.below hbw HW1.out.2.2.lt);obtain⟨S0,hS0⟩:∃S,W5.drew.heap.size=S:=⟨_,rfl⟩;have HS0:Hid (w.heap.size+1+1+1<S0/\S0=W5.drew.heap.size):=hid ⟨by rw [<-hS0];exact K3.out.lt,hS0.symm⟩;clear h0 h1 h2 h3 h4 h5 h7 hl hbl k7 hb3 hb5 hbw hS0 HW1 HB1 HF;rw [HWX.out];rw [hg7];clear hW5 hg7;refine Qan 11 (17::18::19::20::21::22::23::24::25::26::27::[]) (Sq.val (.pointer (some ⟨g7,5,none⟩))::Sq.val (.func (.func n5) #[] A5)::Sq.val (.pointer (some ⟨g7,1,none⟩))::Sq.val (.func (.func n1_) #[] A1_)::Sq.val (.agg #[.bool d.neg,.slice A1 n1 c1,.slice B1 m1 e1,.int .i64 d.c,.bool d.i,.int .u64 d.s,.slice P1 p1 r1,.slice Q1 q1 s1])::Sq.st (fun w a=>VD (cleanW r d) w a)::Sq.val (.pointer (some ⟨g7,1,none⟩))::Sq.val (.func (.func n1_) #[] A1_)::Sq.val (.agg #[.bool d2.neg,.slice A3 n3 c3,.slice B3 m3 e3,.int .i64 d2.c,.bool d2.i,.int .u64 d2.s,.slice P3 p3 r3,.slice Q3 q3 s3])::Sq.st (fun w a=>VD (cleanW r d2) w a)::Sq.st (fun w a=>VX S0 (dOfW (timesR r (takeR r d) (takeR r d2))) w a)::[]) (by kernel_rfl) (by kernel_rfl) (by kernel_rfl) (by kernel_rfl) ?step 1 (by kernel_rfl) _ rfl ?fin
 case step=>
  intro i hi oi ho f wx hB hdep K hK;simp only [frontAct,zf1,zf2,zf3,zf4,zf5]at hK⊢;obtain⟨⟨y0,y1⟩,⟨x0,x1,x2,x3,x4,x5,x6,x7⟩,⟨z0,z1,z2,z3,z4,z5,z6,z7⟩⟩:=KX.out wx hB;iterate 11 rcases Nat.lt_or_eq_of_le (Nat.le_of_lt_succ hi)with hi|rfl
  exact absurd hi (Nat.not_lt_zero _);all_goals
   obtain rfl:=Option.some.inj ho;clear ho;simp only [Act.put,zf3,zf4,zf5]at hK
  rotate_left 5
  ·simp [gOf6,Sq.holds,Region.binds]at hdep
   simp only [hdep]at hK⊢;go_simp;refine(HCL1.out wx hB).mono ?_;rintro e0 w' ⟨l,rfl,hl,hb⟩;exact hK (.agg l.toArray) w' (gs6 rfl (fun w2 h2=>VD.below ⟨l,rfl,hl.rd⟩ h2)) hb (bt hB hb) (nb6 rfl rfl)
  rotate_left 3
  ·simp [gOf6,Sq.holds,Region.binds]at hdep
   simp only [hdep]at hK⊢;go_simp;refine(HCL2.out wx hB).mono ?_;rintro e0 w' ⟨l,rfl,hl,hb⟩;exact hK (.agg l.toArray) w' (gs6 rfl (fun w2 h2=>VD.below ⟨l,rfl,hl.rd⟩ h2)) hb (bt hB hb) (nb6 rfl rfl)
  ·have e18:=dv6 (hdep ⟨1,.data⟩ (by simp) rfl) rfl
   have e22:=ds6 (hdep ⟨5,.data⟩ (by simp) rfl) rfl;have e26:=ds6 (hdep ⟨9,.data⟩ (by simp) rfl) rfl;simp only [zf6,zf7]at e18 e22 e26;generalize f 18=f18 at*;subst e18;replace e22:=(show VD (cleanW r d) wx (f 22)from e22);generalize f 22=f22 at*
   replace e26:=(show VD (cleanW r d2) wx (f 26)from e26);generalize f 26=f26 at*
   obtain⟨l1,rfl,hl1⟩:=e22;obtain⟨l2,rfl,hl2⟩:=e26;go_simp;refine(HOP.out wx hB l1 l2 hl1 hl2).mono ?_;rintro e0 w' ⟨l,rfl,hl,hb⟩;exact hK (.agg l.toArray) w' (gs6 rfl (fun w2 h2=>VX.below ⟨l,rfl,hl.mono (le_refl _) (by have:=HS0.out.2;have:=hB.size;omega)⟩ h2)) hb (bt hB hb) (nb6 rfl rfl)
  all_goals simp [gOf6,Sq.holds,Region.binds]at hdep
  all_goals try simp only [hdep]at hK⊢
  all_goals go_simp
  all_goals exact hK _ wx (gv6 rfl) (Below.refl _ _) hB (nb6 rfl rfl)
 case fin=>
  intro f wx hB hG hne;have e27:VX S0 (dOfW (timesR r (takeR r d) (takeR r d2))) wx (f 27):=ds6 (hG 10 (by decide)) rfl;clear hG hne;simp only [frontAct,zf1,zf2,zf3,zf4,zf5];generalize f 27=fL at*
  obtain⟨l9,rfl,hl⟩:=e27;obtain⟨A',n',c',B',m',e',P',p',r',Q',q',s',rfl,_⟩:=hl.rd.shape;have k3:=K3.out.below hB K3.out.lt;have HEND:=hid (bt HB.out hB);have HL:=hid hl;clear hB hl;obtain⟨g0,g1,g2,g3,g4,g5,g6,g77⟩:=k3.f8;obtain⟨b0,b1,b2,b3,b4,b5,b6,b7⟩:=k3.c8;refine wpAny_ready (rs:=[11]) (by kernel_rfl) (by simp) ?_;refine AllReady.cons rfl (fun K hK=>?_) AllReady.nil;have HQ:=hid hK;clear hK;go_simp;clear g0 g1 g2 g3 g4 g5 g6 g77 b0 b1 b2 b3 b4 b5 b6 b7;refine HQ.out _ _ ?_;clear HQ K;refine wpAny_done (by kernel_rfl) ?_ _;go_wp2_with fail
  refine Qak (l:=[.bool (dOfW (timesR r (takeR r d) (takeR r d2))).neg,.slice A' n' c',.slice B' m' e',.int .i64 (dOfW (timesR r (takeR r d) (takeR r d2))).c,.bool (dOfW (timesR r (takeR r d) (takeR r d2))).i,.int .u64 (dOfW (timesR r (takeR r d) (takeR r d2))).s,.slice P' p' r',.slice Q' q' s']) results28 underlying32 (by kernel_rfl) rfl (Qaj k3 rfl _ _ _ _ _ _ _ _) rfl ?_;exact Qd2 HL.out HS0.out.1 (zero_le _) (by omega) HEND.out k3 rfl
theorem Qpi:∀(n i:Nat),i<n*8->(zrowW n)[i]? =zw8[i%8]?
 |0,i,h=>absurd h (by omega)
 |n+1,i,h=>by
  rw [Qf5];by_cases h8:i<8
  ·rw [List.getElem?_append_left (show i<zw8.length from h8),Nat.mod_eq_of_lt h8]
  ·rw [List.getElem?_append_right (show zw8.length<=i from Nat.le_of_not_lt h8),show zw8.length=8 from rfl,Qpi n (i-8) (by omega)]
   congr 1;omega
theorem zeros8(n:Nat):Builtin.zeroCells (Value.agg #[.bool false,.slice none 0 0,.slice none 0 0,.int .i64 0,.bool false,.int .u64 0,.slice none 0 0,.slice none 0 0]).cells n=(zrowW n).toArray:=by
 show Builtin.zeroCells zw8.toArray n=(zrowW n).toArray;have hs:(Builtin.zeroCells zw8.toArray n).size=n*8:=size_zeroCells _ _;refine Array.ext (by rw [hs,List.size_toArray,Qhb]) fun i h1 h2=>?_
 have hi:i<n*8:=by rw [<-hs];exact h1
 have e:=Qpi n i hi;have h8:i%8<zw8.length:=Nat.mod_lt _ (by decide);rw [List.getElem?_eq_getElem (by rw [Qhb];exact hi),List.getElem?_eq_getElem h8]at e;have e3:(zrowW n).toArray[i]'h2=zw8[i%8]'h8:=Option.some.inj e;have e2:(Builtin.zeroCells zw8.toArray n)[i]'h1=zw8.toArray[i%zw8.toArray.size]! :=by
  simp only [Builtin.zeroCells,Array.getElem_map,Array.getElem_range]
 refine e2.trans (Eq.trans ?_ e3.symm);rw [show zw8.toArray.size=8 from rfl,getElem!_pos zw8.toArray (i%8) h8];rfl
def OwnW(w:World)(B:Nat)(v:Value)(n:Nat)(xs:List Value):Prop:=xs.length=n*8/\((v=.slice none 0 0/\n=0)\/∃g cap,v=.slice (some ⟨g,0,none⟩) n cap/\B<=g/\n<=cap/\cap<=maxLen/\Cs w g (xs++zrowW (cap-n)) 32)
theorem Qwz(w:World)(B:Nat)(v:Value)(n:Nat)(xs:List Value)(hown:OwnW w B v n xs)(g:Nat)(z:List Value)(hz:z.length=8)(hg:Cs w g z 32)(h1:∀u∈z,u.oneCell'=true)(hn:n<=1000)(hB:B<=w.heap.size):
 ∃v' w',(Builtin.append_ #[30,30] 30 #[v,.slice (some ⟨g,0,none⟩) 1 1]).run prog w=.ok v' w'/\OwnW w' B v' (n+1) (xs++z)/\w.grownBy w' v.ownBlock:=by
 have h0:(prog.info? 32).map (fun i=>(i.zero,i.size,decide (i.bytes<=1000)))=some (some (.agg #[.bool false,.slice none 0 0,.slice none 0 0,.int .i64 0,.bool false,.int .u64 0,.slice none 0 0,.slice none 0 0]),8,true):=by kernel_rfl
 obtain⟨i,hi,hzz⟩:=Option.map_eq_some_iff.1 h0;simp only [Prod.mk.injEq,decide_eq_true_eq]at hzz;obtain⟨hz0,hz1,hz2⟩:=hzz;have hu:=underlying30;have hnews:∀j u,z[j]? =some u->w.cell? ((⟨g,0,none⟩:Addr).add j)=some u:=fun j u hju=>by
  have e:(⟨g,0,none⟩:Addr).add j=⟨g,j,none⟩:=by unfold Addr.add;split<;>simp_all
  rw [e];exact hg.cell hju
 have grown:∀(old:Nat),∀(row:Option Nat),
  OwnW (w.drew.alloc (.cells (xs.toArray++z.toArray++Builtin.zeroCells (Value.agg #[.bool false,.slice none 0 0,.slice none 0 0,.int .i64 0,.bool false,.int .u64 0,.slice none 0 0,.slice none 0 0]).cells (grownCap w (n+1) old 32-(n+1))) 32)) B
   (.slice (some ⟨w.heap.size,0,none⟩) (n+1) (grownCap w (n+1) old 32)) (n+1) (xs++z)/\
  w.grownBy (w.drew.alloc (.cells (xs.toArray++z.toArray++Builtin.zeroCells (Value.agg #[.bool false,.slice none 0 0,.slice none 0 0,.int .i64 0,.bool false,.int .u64 0,.slice none 0 0,.slice none 0 0]).cells (grownCap w (n+1) old 32-(n+1))) 32)) row:=by
  intro old row;have hge:=grownCap_ge w (n+1) old 32;have hcm:grownCap w (n+1) old 32<=maxLen:=grownCap_le_maxLen w (n+1) old 32 (by unfold maxLen;omega);refine⟨⟨by rw [List.length_append,hown.1,hz];omega,.inr ⟨w.heap.size,_,rfl,hB,hge,hcm,?_⟩⟩,⟨rfl,rfl,rfl,by simp,fun k hk _=>heap_alloc_old w.drew _ hk⟩⟩;have hn:=heap_alloc_new w.drew (.cells (xs.toArray++z.toArray++Builtin.zeroCells (Value.agg #[.bool false,.slice none 0 0,.slice none 0 0,.int .i64 0,.bool false,.int .u64 0,.slice none 0 0,.slice none 0 0]).cells (grownCap w (n+1) old 32-(n+1))) 32);rw [zeros8]at hn⊢;unfold Cs;rw [<-List.append_toArray,<-List.append_toArray];exact hn
 rcases hown.2 with⟨rfl,rfl⟩|⟨g',cap,rfl,hbg,hnc,hcm,hc⟩
 ·have hx:xs=[]:=List.eq_nil_of_length_eq_zero (by simpa using hown.1)
  subst hx;have hr:=run_append_nil (P:=prog) w 30 30 32 i _ hu hi hz0 ⟨g,0,none⟩ 1 1 z (by rw [hz1,hz]) hnews (by omega) (by omega) (by omega);have hgr:=grown 0 (Value.ownBlock (.slice none 0 0));simp only [Nat.zero_add,List.nil_append,Array.empty_append]at hgr⊢;exact⟨_,_,hr,hgr.1,hgr.2⟩
 ·by_cases hroom:n+1<=cap
  ·have hr:=run_append_room (P:=prog) w 30 30 32 i hu hi g' n cap _ hc ⟨g,0,none⟩ 1 1 z (by rw [hz1,hz]) hnews h1 hroom (by rw [hz1,hz,List.size_toArray,List.length_append,hown.1,Qhb];omega)
   have hzr:zrowW (cap-n)=zw8++zrowW (cap-(n+1)):=(by rw [<-Qf5,show cap-(n+1)+1=cap-n by omega]);have e:(xs++zrowW (cap-n)).take (n*i.size)++z++(xs++zrowW (cap-n)).drop (n*i.size+z.length)=(xs++z)++zrowW (cap-(n+1)):=by
    rw [hz1,hz,List.take_append_of_le_length (by rw [hown.1];omega),List.take_of_length_le (by rw [hown.1];omega),List.drop_append,List.drop_of_length_le (by rw [hown.1];omega),hown.1,show n*8+8-n*8=8 by omega,hzr,List.drop_append,show zw8.drop 8=[]from rfl];simp [show zw8.length=8 from rfl]
   rw [show((xs++zrowW (cap-n)).toArray).toList=xs++zrowW (cap-n)from rfl,e]at hr;exact⟨_,_,hr,⟨by rw [List.length_append,hown.1,hz];omega,.inr ⟨g',cap,rfl,hbg,hroom,hcm,setRow_heap w g' _ _ _ _ hc⟩⟩,⟨rfl,rfl,rfl,by simp,fun k _ hk=>setRow_other w g' k _ (fun e=>hk (by simp [Value.ownBlock,e]))⟩⟩
  ·have holds:∀j u,xs[j]? =some u->w.cell? ((⟨g',0,none⟩:Addr).add j)=some u:=fun j u hju=>by
    have e:(⟨g',0,none⟩:Addr).add j=⟨g',j,none⟩:=(by unfold Addr.add;split<;>simp_all);rw [e];exact hc.cell (by rw [List.getElem?_append_left (List.getElem?_eq_some_iff.1 hju).1];exact hju)
   have hr:=run_append_grow (P:=prog) w 30 30 32 i _ hu hi hz0 ⟨g',0,none⟩ n cap xs (by rw [hz1,hown.1]) holds ⟨g,0,none⟩ 1 1 z (by rw [hz1,hz]) hnews (by omega) (by omega) (growslice_fits (by omega) (le_trans (Nat.mul_le_mul_left _ hz2) (by omega)));have hgr:=grown cap (Value.ownBlock (.slice (some ⟨g',0,none⟩) n cap));exact⟨_,_,hr,hgr.1,hgr.2⟩
theorem OwnW.below{w w':World}{B n:Nat}{v:Value}{l:List Value}(h:OwnW w B v n l)(hb:Below w.heap.size w w'):OwnW w' B v n l:=by
 refine⟨h.1,?_⟩;rcases h.2 with h2|⟨g,cap,e,hB,h3,h4,hh⟩
 ·exact .inl h2
 ·exact .inr ⟨g,cap,e,hB,h3,h4,hh.below hb hh.lt⟩
theorem OwnW.wch{w w':World}{B n:Nat}{v:Value}{ws:List (List Value)}(h:OwnW w B v n ws.flatten)(h8:∀x∈ws,isW8 x)(hg:w.grownBy w' v.ownBlock):Wch B w.heap.size w w':=by
 refine⟨hg.os,hg.tape,hg.output,hg.size,fun b hb=>?_⟩;rcases h.2 with⟨rfl,_⟩|⟨g,cap,rfl,hB,h3,h4,hh⟩
 ·exact .inl (hg.block b hb (by simp [Value.ownBlock]))
 ·by_cases e:b=g
  ·subst e
   refine .inr ⟨hB,hb,_,_,hh,ws++List.replicate (cap-n) zw8,by unfold zrowW;rw [List.flatten_append],fun x hx=>?_⟩;rcases List.mem_append.1 hx with hx|hx
   ·exact h8 x hx
   ·rw [(List.mem_replicate.1 hx).2];exact Qmg
  ·exact .inl (hg.block b hb (by simp [Value.ownBlock,e]))
theorem OwnW.far{w w':World}{B S n:Nat}{v:Value}{l:List Value}(h:OwnW w B v n l)(hw:Wch 0 S w w')(hS:S<=B):OwnW w' B v n l:=by
 refine⟨h.1,?_⟩;rcases h.2 with h2|⟨g,cap,e,hB,h3,h4,hh⟩
 ·exact .inl h2
 ·exact .inr ⟨g,cap,e,hB,h3,h4,((hw.block g hh.lt).resolve_right (fun⟨_,h,_⟩=>by omega)).trans hh⟩
theorem WPs.take{w:World}{A:Option Addr}{N c:Nat}{ps qs:List WD}(h:WPs w A N c (ps++qs)):WPs w A ps.length c ps:=by
 have hl:=h.len;obtain⟨xs,h1,h2,f,h3,h4⟩:=h;rw [List.length_append]at h2 hl;have hj:∀(j:Nat) (d:WD),ps[j]? =some d->(ps++qs)[j]? =some d:=fun j d hd=>by rw [List.getElem?_append_left (List.getElem?_eq_some_iff.1 hd).1];exact hd
 refine⟨xs.take ps.length,h1.take (by omega),by rw [List.length_take];omega,f,fun j d hd=>?_,fun j d hd=>h4 j d (hj j d hd)⟩;rw [List.getElem?_take,if_pos (List.getElem?_eq_some_iff.1 hd).1];exact h3 j d (hj j d hd)
theorem Qgp(w:World):WRd w zw8 (dOf svZ):=by
 have:=WRd.made (w:=w) (neg:=false) (k:=0) (i:=false) (s:=0) (Num.nil w none 0) (Num.nil w none 0) (PRaw.nil w none 0) (WPs.nil w none 0);have e:dOf svZ=.mk false [] [] 0 false 0 [] []:=by
  show WD.mk _ (limbs 0) _ _ _ _ _ _=_;rw [Qaf];rfl
 rw [e];exact this
structure MInv (ks:List Nat) (B k:Nat) (v:Value) (us:List SV) (w:World):Prop where
 out:∃ws:List (List Value),ws.length=k/\OwnW w B v k ws.flatten/\(∀x∈ws,isW8 x)/\(∀(j:Nat) (a:SV),us[j]? =some a->∃x,ws[j]? =some x/\WRd w x (dOf a))
 len:us.length=k
 ok:okL (ks.take k) us
 sz:∀a∈us,SzS 8 a
theorem MInv.nil(ks:List Nat)(B:Nat)(w:World):MInv ks B 0 (.slice none 0 0) [] w:=⟨⟨[],rfl,⟨rfl,.inl ⟨rfl,rfl⟩⟩,fun x hx=>(by cases hx),fun j a h=>by simp at h⟩,rfl,trivial,fun a ha=>(by cases ha)⟩
theorem MInv.below{ks:List Nat}{B k:Nat}{v:Value}{us:List SV}{w w':World}(h:MInv ks B k v us w)(hb:Below w.heap.size w w'):MInv ks B k v us w':=by
 obtain⟨ws,h1,h2,h3,h4⟩:=h.out;refine⟨⟨ws,h1,h2.below hb,h3,fun j a hj=>?_⟩,h.len,h.ok,h.sz⟩;obtain⟨x,e1,e2⟩:=h4 j a hj;exact⟨x,e1,e2.keep hb⟩
theorem MInv.far{ks:List Nat}{B S k:Nat}{v:Value}{us:List SV}{w w':World}(h:MInv ks B k v us w)(hw:Wch 0 S w w')(hS:S<=B):MInv ks B k v us w':=by
 obtain⟨ws,h1,h2,h3,h4⟩:=h.out;refine⟨⟨ws,h1,h2.far hw hS,h3,fun j a hj=>?_⟩,h.len,h.ok,h.sz⟩;obtain⟨x,e1,e2⟩:=h4 j a hj;exact⟨x,e1,e2.wst rfl _ hw⟩
theorem Qpj:∀ {ks:List Nat} {us:List SV} {k:Nat} {a:SV},okL ks us->okK k a->okL (ks++[k]) (us++[a])
 |[],[],_,_,_,h=>⟨h,trivial⟩
 |[],_::_,_,_,h,_=>h.elim
 |_::_,[],_,_,h,_=>h.elim
 |_::ks,_::us,_,_,h,h'=>⟨h.1,Qpj (ks:=ks) (us:=us) h.2 h'⟩
theorem MInv.app{ks:List Nat}{B k:Nat}{v:Value}{us:List SV}{w:World}(h:MInv ks B k v us w)(hB:B<=w.heap.size)(hk3:k<=3){kk:Nat}(hk:ks[k]? =some kk){g:Nat}{z:List Value}{a:SV}(hg:Cs w g z 32)(hz:WRd w z (dOf a))(h1:∀u∈z,u.oneCell'=true)(ha:okK kk a)(hs:SzS 8 a):
 ∃v' w',(Builtin.append_ #[30,30] 30 #[v,.slice (some ⟨g,0,none⟩) 1 1]).run prog w=.ok v' w'/\MInv ks B (k+1) v' (us++[a]) w'/\Below B w w':=by
 obtain⟨ws,e1,e2,e3,e4⟩:=h.out;obtain⟨v',w',hr,ho,hgr⟩:=Qwz w B v k ws.flatten e2 g z hz.isW8.len hg h1 (by omega) hB;have hw:=e2.wch e3 hgr;have hl:=h.len;refine⟨v',w',hr,⟨⟨ws++[z],by rw [List.length_append,e1];rfl,by rw [List.flatten_append,List.flatten_singleton];exact ho,fun x hx=>?_,fun j b hj=>?_⟩,by rw [List.length_append,hl];rfl,?_,fun b hb=>?_⟩,hw.below hB⟩
 ·rcases List.mem_append.1 hx with hx|hx
  ·exact e3 x hx
  ·rw [List.mem_singleton.1 hx];exact hz.isW8
 ·rcases Nat.lt_or_ge j k with hjk|hjk
  ·rw [List.getElem?_append_left (by omega)]at hj
   obtain⟨x,f1,f2⟩:=e4 j b hj;exact⟨x,by rw [List.getElem?_append_left (by omega)];exact f1,f2.wst rfl _ hw⟩
  ·have hlt:=(List.getElem?_eq_some_iff.1 hj).1
   rw [List.length_append,hl]at hlt;obtain rfl:j=k:=(by have:[a].length=1:=rfl;omega);rw [List.getElem?_append_right (by omega),hl,Nat.sub_self]at hj;obtain rfl:=Option.some.inj hj;exact⟨z,by rw [List.getElem?_append_right (by omega),e1,Nat.sub_self];rfl,hz.wst rfl _ hw⟩
 ·rw [List.take_add_one,hk]
  exact Qpj h.ok ha
 ·rcases List.mem_append.1 hb with hb|hb
  ·exact h.sz b hb
  ·rw [List.mem_singleton.1 hb];exact hs
theorem MInv.done{ks:List Nat}{B k:Nat}{v:Value}{us:List SV}{w:World}(h:MInv ks B k v us w)(hk:0<k):∃A n c,v=.slice A n c/\WRd w [.bool false,.slice none 0 0,.slice none 0 0,.int .i64 0,.bool false,.int .u64 0,.slice none 0 0,.slice A n c] (dOfW (svZ,us)):=by
 obtain⟨ws,h1,h2,h3,h4⟩:=h.out;rcases h2.2 with⟨_,h0⟩|⟨g,cap,rfl,hB,hn,_,hc⟩
 ·omega
 ·refine⟨_,_,_,rfl,?_⟩
  rw [Qmh];have hl:=h.len;have hw:WPs w (some ⟨g,0,none⟩) cap cap (us.map dOf++List.replicate (cap-k) (dOf svZ)):=by
   have:=WPs.of_cs (ws:=ws++List.replicate (cap-k) zw8) (parts:=us.map dOf++List.replicate (cap-k) (dOf svZ)) (by rw [List.flatten_append];exact hc) (by simp;omega) (fun j d hj=>by
    rcases Nat.lt_or_ge j k with hjk|hjk
    ·rw [List.getElem?_append_left (by rw [List.length_map];omega),List.getElem?_map]at hj
     obtain⟨a,ha,rfl⟩:=Option.map_eq_some_iff.1 hj;rw [List.getElem?_append_left (by omega)];exact h4 j a ha
    ·rw [List.getElem?_append_right (by rw [List.length_map];omega)]at hj
     obtain rfl:=List.eq_of_mem_replicate (List.mem_of_getElem? hj);have hlt:=(List.getElem?_eq_some_iff.1 hj).1;rw [List.length_replicate,List.length_map]at hlt;refine⟨zw8,?_,Qgp w⟩;rw [List.getElem?_append_right (by omega),List.getElem?_replicate,if_pos (by omega)])
   have e:(us.map dOf++List.replicate (cap-k) (dOf svZ)).length=cap:=(by simp;omega);rw [e]at this;exact this
  have h5:=hw.take;rw [List.length_map,hl]at h5;exact WRd.made (Num.nil ..) (Num.nil ..) (PRaw.nil ..) h5
theorem Qm1{w:World}{ops:Array Oper}{o:Oper}{a:Act}{Q:Exit->Act->World->Prop}{K:Act->World->Prop}{E:Prop}(hgd:o.guard=none)(sl x:Operand)
 (ho:o.op=.call {callee:=.builtin .append,args:=#[sl,x],argTypes:=#[30,30]})(hty:o.type=30)(v v' u:Value)(w':World)(hs:a.eval sl=v)(hx:a.eval x=u)
 (hrun:Hid ((Builtin.append_ #[30,30] 30 #[v,u]).run prog w=.ok v' w'))(hK:K (a.put o.dst v') w'):
 if Region.wanted o (yielded ops a.tmps)=true then Oper.wp prog o a w K Q else E:=by
 have hw:Region.wanted o (yielded ops a.tmps)=true:=by simp [Region.wanted,hgd]
 have hr:=hrun.out;rw [if_pos hw];unfold Oper.wp;simp [execOp,ho,hty,resolve,invoke,builtin,hs,hx,hr,Result.andThen];exact hK
theorem MInv.sl{ks:List Nat}{B k:Nat}{v:Value}{us:List SV}{w:World}(h:MInv ks B k v us w):∃A n c,v=.slice A n c:=by
 obtain⟨ws,h1,h2,_⟩:=h.out;rcases h2.2 with⟨e,_⟩|⟨g,cap,e,_⟩
 ·exact⟨_,_,_,e⟩
 ·exact⟨_,_,_,e⟩
theorem MInv.done'{ks:List Nat}{B k:Nat}{A:Option Addr}{n c:Nat}{us:List SV}{w:World}(h:MInv ks B k (.slice A n c) us w)(hk:0<k):WRd w [.bool false,.slice none 0 0,.slice none 0 0,.int .i64 0,.bool false,.int .u64 0,.slice none 0 0,.slice A n c] (dOfW (svZ,us)):=by
 obtain⟨A',n',c',e,hw⟩:=h.done hk;injection e with e1 e2 e3;subst e1 e2 e3;exact hw
def RZ(z:CW)(w:World)(v:Value):Prop:=∃l:List Value,v=.agg l.toArray/\WRd w l (dOfW z)
theorem RZ.below{z:CW}{w w':World}{v:Value}(h:RZ z w v)(hb:Below w.heap.size w w'):RZ z w' v:=by
 obtain⟨l,e,h3⟩:=h;exact⟨l,e,h3.keep hb⟩
def RetZ(z:CW)(w0:World)(e:Ending)(w':World):Prop:=∃v,e=.returned v/\RZ z w' v/\Below w0.heap.size w0 w'
theorem RetX.z{z:CW}{w0:World}{e:Ending}{w':World}(h:RetX 0 w0 (dOfW z) e w'):RetZ z w0 e w':=by
 obtain⟨l,e,h1,h2⟩:=h;exact⟨_,e,⟨l,rfl,h1.rd⟩,h2⟩
def Fit(r:Rg)(z:CW):Prop:=okW r z/\SzW 1000 z
theorem Fit.szk{r:Rg}(hr:okRg r){z:CW}(h:Fit r z):SzK (dOfW z):=(Qeu hr h.1 h.2).up (by decide) (by decide)
structure Ring3 (r:Rg) (k:Int) (l:List Int) (A:Option Addr) (n c:Nat) (w:World):Prop where
 tab:Tab w
 ints:IntR w l A n c
 eq:ringOf k l=some r
theorem Ring3.below{r:Rg}{k:Int}{l:List Int}{A:Option Addr}{n c:Nat}{w w':World}(h:Ring3 r k l A n c w)(hb:Below w.heap.size w w'):Ring3 r k l A n c w':=⟨h.tab.below hb,h.ints.below hb,h.eq⟩
theorem z_Zero{r:Rg}{k:Int}{l:List Int}{A:Option Addr}{n c:Nat}{w:World}(h:Ring3 r k l A n c w):Calls prog 20 #[.agg #[.int .i64 k,.slice A n c]] w (RetZ (zeroR r) w):=(Qxq Qbs r k l A n c w h.tab h.ints h.eq).mono fun _ _ h=>RetX.z h
theorem z_One{r:Rg}{k:Int}{l:List Int}{A:Option Addr}{n c:Nat}{w:World}(h:Ring3 r k l A n c w):Calls prog 22 #[.agg #[.int .i64 k,.slice A n c]] w (RetZ (oneR r) w):=(One_o Qbs r k l A n c w h.tab h.ints h.eq).mono fun _ _ h=>RetX.z h
def RetC(c:Int)(i:Bool)(w0:World)(e:Ending)(w':World):Prop:=∃(nb:Bool) (A':Option Addr) (n' c':Nat) (B':Option Addr) (m' e':Nat) (s':Int) (P':Option Addr) (p' r':Nat) (Q':Option Addr) (q' t':Nat),e=.returned (.agg #[.bool nb,.slice A' n' c',.slice B' m' e',.int .i64 c,.bool i,.int .u64 s',.slice P' p' r',.slice Q' q' t'])/\Below w0.heap.size w0 w'
theorem RetX.c{z:SV}{c:Int}{i:Bool}(hz:z=svC c i){w0:World}{e:Ending}{w':World}(h:RetX 0 w0 (dOfW (z,[])) e w'):RetC c i w0 e w':=by
 subst hz;obtain⟨l,rfl,h1,h2⟩:=h;obtain⟨A,n,c1,B,m,e,P,p,r,Q,q,s,rfl,_⟩:=h1.rd.shape;exact⟨_,_,_,_,_,_,_,_,_,_,_,_,_,_,rfl,h2⟩
theorem okc2{c:Int}{i:Bool}(h0:0<=c)(h1:c<=1099511627776)(h2:i=true->c=0):okW (.one 2) (svC c i,[]):=⟨⟨rfl,h0,h1,h2⟩,rfl⟩
theorem szc2(c:Int)(i:Bool):SzW 1000 (svC c i,[]):=⟨Qzf (by decide) _ _,fun _ h=>by cases h⟩
theorem Plus_c{c d e:Int}{i j k:Bool}{w:World}(hT:Tab w)(hc:okW (.one 2) (svC c i,[]))(hd:okW (.one 2) (svC d j,[]))(H:plusK 2 (svC c i) (svC d j)=svC e k):Calls prog 26 #[.agg #[.int .i64 2,.slice none 0 0],tw c i,tw d j] w (RetC e k w):=by
 have hr:okRg (.one 2):=⟨by decide,by decide⟩;have:=Qun Qbs (.one 2) 2 [] none 0 0 w hT (Rd.nil _ _ _) rfl (dOfW (svC c i,[])) (dOfW (svC d j,[])) _ _ (Qgk w c i) (Qgk w d j) ((Qeu hr hc (szc2 c i)).up (by decide) (by decide)) ((Qeu hr hd (szc2 d j)).up (by decide) (by decide)) (Qdg hr hc) (Qdg hr hd);rw [(Qco hr hc).2,(Qco hr hd).2]at this;exact this.mono fun _ _ h=>RetX.c H h
theorem Qzg{c d e:Int}{i j k:Bool}{w:World}(hT:Tab w)(hc:okW (.one 2) (svC c i,[]))(hd:okW (.one 2) (svC d j,[]))(H:timesK 2 (svC c i) (svC d j)=svC e k):Calls prog 28 #[.agg #[.int .i64 2,.slice none 0 0],tw c i,tw d j] w (RetC e k w):=by
 have hr:okRg (.one 2):=⟨by decide,by decide⟩;have:=Quo Qbs (.one 2) 2 [] none 0 0 w hT (Rd.nil _ _ _) rfl (dOfW (svC c i,[])) (dOfW (svC d j,[])) _ _ (Qgk w c i) (Qgk w d j) ((Qeu hr hc (szc2 c i)).up (by decide) (by decide)) ((Qeu hr hd (szc2 d j)).up (by decide) (by decide)) (Qdg hr hc) (Qdg hr hd);rw [(Qco hr hc).2,(Qco hr hd).2]at this;exact this.mono fun _ _ h=>RetX.c H h
theorem plus35:plusK 2 (svC 3 false) (svC 5 false)=svC 3 false:=by kernel_rfl
theorem Qup:timesK 2 (svC 1099511627776 false) (svC 1 false)=svC 0 true:=by kernel_rfl
theorem Qew{n:Nat}(h:n<4294967296):(limbs n).length<=1:=Qax (by unfold P;omega)
theorem Qkv:qv false (qv false 1 2).num.natAbs (qv false 1 2).den=qv false 1 2:=by decide+kernel
theorem Qkw:cmpQ (qv false 1 2) 1= -1:=by decide+kernel
theorem Qkx:1-qv false 1 2=qv false 1 2:=by decide+kernel
theorem Qn8:qv false 1 2≠0:=by decide+kernel
theorem Qky:1 / qv false 1 2=qv false 2 1:=by decide+kernel
theorem Qdz(L:Nat)(h:1<=L):Sz (qv false 1 2) L:=by
 have e1:(qv false 1 2).num.natAbs=1:=by decide+kernel
 have e2:(qv false 1 2).den=2:=by decide+kernel
 refine⟨?_,?_⟩
 ·rw [e1];exact le_trans (Qew (by decide)) h
 ·rw [e2];exact le_trans (Qew (by decide)) h
theorem two_sz(L:Nat)(h:1<=L):Sz (qv false 2 1) L:=by
 have e1:(qv false 2 1).num.natAbs=2:=by decide+kernel
 have e2:(qv false 2 1).den=1:=by decide+kernel
 refine⟨?_,?_⟩
 ·rw [e1];exact le_trans (Qew (by decide)) h
 ·rw [e2];exact le_trans (Qew (by decide)) h
theorem Qzh:(⟨(fmtQ (qv false 2 1)).toArray⟩:ByteArray)=⟨#[50]⟩:=by
 have f4:fmtQ (qv false 2 1)=[50]:=by rw [fmt_of (by decide) (by decide),Qyv (by decide)];rfl
 rw [f4]
def ARel(w0:World)(r:Rat)(p b:Value)(wx:World):Prop:=
 ∃g go nr Ar kr cr Br mr er,p=.pointer (some ⟨g,0,none⟩)/\b=.int .i64 0/\Cs wx g [.bool false,.slice none 0 0,.slice none 0 0,.int .i64 0,.bool false,.int .u64 0,.slice none 0 0,.slice (some ⟨go,0,none⟩) 2 2] 32/\w0.heap.size<=g/\Cs wx go (pairL nr Ar kr cr Br mr er 0 false) 32/\RatQ wx (.agg #[.bool nr,.slice Ar kr cr,.slice Br mr er]) r/\Below w0.heap.size w0 wx
theorem arel1{w0 W:World}{r:Rat}{go:Nat}{nr:Bool}{Ar Br:Option Addr}{kr cr mr er:Nat}(hb:Below w0.heap.size w0 W)(hO:Cs W go (pairL nr Ar kr cr Br mr er 0 false) 32)(h:RatQ W (.agg #[.bool nr,.slice Ar kr cr,.slice Br mr er]) r):ARel w0 r (.pointer (some ⟨W.heap.size,0,none⟩)) (.int .i64 0) (W.alloc (.cells #[.bool false,.slice none 0 0,.slice none 0 0,.int .i64 0,.bool false,.int .u64 0,.slice none 0 0,.slice (some ⟨go,0,none⟩) 2 2] 32)):=by
 have hx:=blk1 W [.bool false,.slice none 0 0,.slice none 0 0,.int .i64 0,.bool false,.int .u64 0,.slice none 0 0,.slice (some ⟨go,0,none⟩) 2 2] 32;exact⟨_,_,_,_,_,_,_,_,_,rfl,rfl,hx.2,hb.size,hO.alloc _,h.below hx.1,bt hb hx.1⟩
theorem arel2{w0 W:World}{r:Rat}{go g:Nat}{nr:Bool}{Ar Br:Option Addr}{kr cr mr er:Nat}(hb:Below w0.heap.size w0 W)(hg:w0.heap.size<=g)(hA:Cs W g [.bool false,.slice none 0 0,.slice none 0 0,.int .i64 0,.bool false,.int .u64 0,.slice none 0 0,.slice none 0 0] 32)(hO:Cs W go (pairL nr Ar kr cr Br mr er 0 false) 32)(h:RatQ W (.agg #[.bool nr,.slice Ar kr cr,.slice Br mr er]) r):ARel w0 r (.pointer (some ⟨g,0,none⟩)) (.int .i64 0) ((((((((W.setCell ⟨g,0,none⟩ (.bool false)).setCell ⟨g,1,none⟩ (.slice none 0 0)).setCell ⟨g,2,none⟩ (.slice none 0 0)).setCell ⟨g,3,none⟩ (.int .i64 0)).setCell ⟨g,4,none⟩ (.bool false)).setCell ⟨g,5,none⟩ (.int .u64 0)).setCell ⟨g,6,none⟩ (.slice none 0 0)).setCell ⟨g,7,none⟩ (.slice (some ⟨go,0,none⟩) 2 2)):=
 ⟨_,_,_,_,_,_,_,_,_,rfl,rfl,Qaj hA rfl _ _ _ _ _ _ _ _,hg,Qbo hO (hO.ne_len hA (by simp)) _ _ _ _ _ _ _ _,h.s8 hA (by simp) _ _ _ _ _ _ _ _,Qam hb hg _ _ _ _ _ _ _ _⟩
theorem Qd0(w:World)(hT:Txt w):Calls prog 11 #[] w (RetV w (.bool true)):=by
 have HT:=hid hT;clear hT;obtain⟨hb0,c1,cR,c2⟩:=blk3 w [.int .i64 2,.slice none 0 0] [.int .i64 1,.int .i64 2] [.int .i64 6,.slice (some ⟨w.heap.size+1,0,none⟩) 2 2] 24 3 24;go_enter func11,ntmps11;go_wp2_with fail
 generalize (((w.alloc (.cells #[.int .i64 2,.slice none 0 0] 24)).alloc (.cells #[.int .i64 1,.int .i64 2] 3)).alloc (.cells #[.int .i64 6,.slice (some ⟨w.heap.size+1,0,none⟩) 2 2] 24))=W0 at*
 replace c1:=c1.drew;replace cR:=cR.drew;replace c2:=c2.drew;have hb9:=hb0.drew;replace hb0:Below W0.drew.heap.size W0.drew W0.drew:=Below.refl _ _;have hz0:=hb9.size;have hdz1:W0.drew.heap.size<=W0.heap.size:=le_refl _;have hdz2:W0.heap.size<=W0.drew.heap.size:=le_refl _;have l0:=c2.lt;have hcost7:Cost 7 false:=.inr ⟨rfl,by omega,by omega⟩;have hrl:(W0.drew.cell? ⟨w.heap.size+1+1,0,none⟩=some (.int .i64 6)/\W0.drew.cell? ⟨w.heap.size+1+1,1,none⟩=some (.slice (some ⟨w.heap.size+1,0,none⟩) 2 2)):=⟨c2.cell rfl,c2.cell rfl⟩
 go_cut [3,4]from 8 to 17 (fun p b wx=>ARel W0.drew (qv false 2 1) p b wx)
 case first=>
  go_region_held3 (fun w'=>(w'.cell? ⟨w.heap.size+1+1,0,none⟩=some (.int .i64 6)/\w'.cell? ⟨w.heap.size+1+1,1,none⟩=some (.slice (some ⟨w.heap.size+1,0,none⟩) 2 2)))
   (first|with_reducible exact hrl|((with_reducible refine⟨?_,?_⟩)<;>(repeat' (first|(with_reducible exact hrl.1)|(with_reducible exact hrl.2)|(with_reducible refine Qde _ ?_)|(with_reducible refine Qdf _ ?_)|(with_reducible refine Qa4 ?_ ?_)|omega)))|fail)
   (first
    |(have _g:=m1;(with_reducible change Calls _ _ _ (x1.alloc (.cells #[.bool nb,.slice A n c,.slice B m e,.int .i64 0,.bool false,.int .u64 0,.slice none 0 0,.slice none 0 0,.bool false,.slice none 0 0,.slice none 0 0,.int .i64 7,.bool false,.int .u64 0,.slice none 0 0,.slice none 0 0] 32)) _);go_at_call 24;have hbl:=blk1 x1 [.bool nb,.slice A n c,.slice B m e,.int .i64 0,.bool false,.int .u64 0,.slice none 0 0,.slice none 0 0,.bool false,.slice none 0 0,.slice none 0 0,.int .i64 7,.bool false,.int .u64 0,.slice none 0 0,.slice none 0 0] 32;have hal:Below x1.heap.size x1 (x1.alloc (.cells #[.bool nb,.slice A n c,.slice B m e,.int .i64 0,.bool false,.int .u64 0,.slice none 0 0,.slice none 0 0,.bool false,.slice none 0 0,.slice none 0 0,.int .i64 7,.bool false,.int .u64 0,.slice none 0 0,.slice none 0 0] 32)):=hbl.1;have hE:Cs (x1.alloc (.cells #[.bool nb,.slice A n c,.slice B m e,.int .i64 0,.bool false,.int .u64 0,.slice none 0 0,.slice none 0 0,.bool false,.slice none 0 0,.slice none 0 0,.int .i64 7,.bool false,.int .u64 0,.slice none 0 0,.slice none 0 0] 32)) (x1.heap.size) (pairL nb A n c B m e 7 false) 32:=hbl.2;replace hb0:=bt hb0 hal;replace c1:=c1.below hal c1.lt;replace cR:=cR.below hal cR.lt;replace c2:=c2.below hal c2.lt;replace h1:=h1.below hal;(try replace rA:=rA.below hal rA.lt);refine(Qig (w.heap.size+1) 2 (x1.heap.size) nb A B n c m e 7 false _ _ cR hE h1 (HT.out.keep (hb9.trans (hb0.mono hz0)).block).tab hcost7 (qv false 1 2) (qv false 1 2) (qv false 2 1) (Qdz _ (by decide)) (hid Qkv) (Qdz _ (by decide)) (hid Qkw) (hid Qkx) (Qdz _ (by decide)) (hid Qn8) (hid Qky)).mono ?_;rintro e0 x2 ⟨go,nr,Ar,kr,cr1,Br,mr,er,rfl,cO,hr,hbk⟩;replace hb0:=bt hb0 hbk;replace c1:=c1.below hbk c1.lt;replace cR:=cR.below hbk cR.lt;replace c2:=c2.below hbk c2.lt;(try replace rA:=rA.below hbk rA.lt);have hz2:=hb0.size;have l2:=c2.lt;have hrl:(x2.cell? ⟨w.heap.size+1+1,0,none⟩=some (.int .i64 6)/\x2.cell? ⟨w.heap.size+1+1,1,none⟩=some (.slice (some ⟨w.heap.size+1,0,none⟩) 2 2)):=⟨c2.cell rfl,c2.cell rfl⟩;(try (have e0:=rA.at 0 (by decide);have q0:=rA.frozen 0;have e1:=rA.at 1 (by decide);have q1:=rA.frozen 1;have e2:=rA.at 2 (by decide);have q2:=rA.frozen 2;have e3:=rA.at 3 (by decide);have q3:=rA.frozen 3;have e4:=rA.at 4 (by decide);have q4:=rA.frozen 4;have e5:=rA.at 5 (by decide);have q5:=rA.frozen 5;have e6:=rA.at 6 (by decide);have q6:=rA.frozen 6;have e7:=rA.at 7 (by decide);have q7:=rA.frozen 7;have lA:=rA.lt)))
    |(have _g:=m1;(with_reducible change Calls _ _ _ ((x1.alloc (.cells #[.bool false,.slice none 0 0,.slice none 0 0,.int .i64 0,.bool false,.int .u64 0,.slice none 0 0,.slice none 0 0] 32)).alloc (.cells #[.bool nb,.slice A n c,.slice B m e,.int .i64 0,.bool false,.int .u64 0,.slice none 0 0,.slice none 0 0,.bool false,.slice none 0 0,.slice none 0 0,.int .i64 7,.bool false,.int .u64 0,.slice none 0 0,.slice none 0 0] 32)) _);go_at_call 24;have hbl:=blk2 x1 [.bool false,.slice none 0 0,.slice none 0 0,.int .i64 0,.bool false,.int .u64 0,.slice none 0 0,.slice none 0 0] [.bool nb,.slice A n c,.slice B m e,.int .i64 0,.bool false,.int .u64 0,.slice none 0 0,.slice none 0 0,.bool false,.slice none 0 0,.slice none 0 0,.int .i64 7,.bool false,.int .u64 0,.slice none 0 0,.slice none 0 0] 32 32;have hal:Below x1.heap.size x1 ((x1.alloc (.cells #[.bool false,.slice none 0 0,.slice none 0 0,.int .i64 0,.bool false,.int .u64 0,.slice none 0 0,.slice none 0 0] 32)).alloc (.cells #[.bool nb,.slice A n c,.slice B m e,.int .i64 0,.bool false,.int .u64 0,.slice none 0 0,.slice none 0 0,.bool false,.slice none 0 0,.slice none 0 0,.int .i64 7,.bool false,.int .u64 0,.slice none 0 0,.slice none 0 0] 32)):=hbl.1;have hE:Cs ((x1.alloc (.cells #[.bool false,.slice none 0 0,.slice none 0 0,.int .i64 0,.bool false,.int .u64 0,.slice none 0 0,.slice none 0 0] 32)).alloc (.cells #[.bool nb,.slice A n c,.slice B m e,.int .i64 0,.bool false,.int .u64 0,.slice none 0 0,.slice none 0 0,.bool false,.slice none 0 0,.slice none 0 0,.int .i64 7,.bool false,.int .u64 0,.slice none 0 0,.slice none 0 0] 32)) (x1.heap.size+1) (pairL nb A n c B m e 7 false) 32:=hbl.2.2;have rA:Cs ((x1.alloc (.cells #[.bool false,.slice none 0 0,.slice none 0 0,.int .i64 0,.bool false,.int .u64 0,.slice none 0 0,.slice none 0 0] 32)).alloc (.cells #[.bool nb,.slice A n c,.slice B m e,.int .i64 0,.bool false,.int .u64 0,.slice none 0 0,.slice none 0 0,.bool false,.slice none 0 0,.slice none 0 0,.int .i64 7,.bool false,.int .u64 0,.slice none 0 0,.slice none 0 0] 32)) (x1.heap.size) [.bool false,.slice none 0 0,.slice none 0 0,.int .i64 0,.bool false,.int .u64 0,.slice none 0 0,.slice none 0 0] 32:=hbl.2.1;replace hb0:=bt hb0 hal;replace c1:=c1.below hal c1.lt;replace cR:=cR.below hal cR.lt;replace c2:=c2.below hal c2.lt;replace h1:=h1.below hal;refine(Qig (w.heap.size+1) 2 (x1.heap.size+1) nb A B n c m e 7 false _ _ cR hE h1 (HT.out.keep (hb9.trans (hb0.mono hz0)).block).tab hcost7 (qv false 1 2) (qv false 1 2) (qv false 2 1) (Qdz _ (by decide)) (hid Qkv) (Qdz _ (by decide)) (hid Qkw) (hid Qkx) (Qdz _ (by decide)) (hid Qn8) (hid Qky)).mono ?_;rintro e0 x2 ⟨go,nr,Ar,kr,cr1,Br,mr,er,rfl,cO,hr,hbk⟩;replace hb0:=bt hb0 hbk;replace c1:=c1.below hbk c1.lt;replace cR:=cR.below hbk cR.lt;replace c2:=c2.below hbk c2.lt;(try replace rA:=rA.below hbk rA.lt);have hz2:=hb0.size;have l2:=c2.lt;have hrl:(x2.cell? ⟨w.heap.size+1+1,0,none⟩=some (.int .i64 6)/\x2.cell? ⟨w.heap.size+1+1,1,none⟩=some (.slice (some ⟨w.heap.size+1,0,none⟩) 2 2)):=⟨c2.cell rfl,c2.cell rfl⟩;(try (have e0:=rA.at 0 (by decide);have q0:=rA.frozen 0;have e1:=rA.at 1 (by decide);have q1:=rA.frozen 1;have e2:=rA.at 2 (by decide);have q2:=rA.frozen 2;have e3:=rA.at 3 (by decide);have q3:=rA.frozen 3;have e4:=rA.at 4 (by decide);have q4:=rA.frozen 4;have e5:=rA.at 5 (by decide);have q5:=rA.frozen 5;have e6:=rA.at 6 (by decide);have q6:=rA.frozen 6;have e7:=rA.at 7 (by decide);have q7:=rA.frozen 7;have lA:=rA.lt)))
    |(have _g:=m1;(with_reducible change Calls _ _ _ ((x1.alloc (.cells #[.bool nb,.slice A n c,.slice B m e,.int .i64 0,.bool false,.int .u64 0,.slice none 0 0,.slice none 0 0,.bool false,.slice none 0 0,.slice none 0 0,.int .i64 7,.bool false,.int .u64 0,.slice none 0 0,.slice none 0 0] 32)).alloc (.cells #[.bool false,.slice none 0 0,.slice none 0 0,.int .i64 0,.bool false,.int .u64 0,.slice none 0 0,.slice none 0 0] 32)) _);go_at_call 24;have hbl:=blk2 x1 [.bool nb,.slice A n c,.slice B m e,.int .i64 0,.bool false,.int .u64 0,.slice none 0 0,.slice none 0 0,.bool false,.slice none 0 0,.slice none 0 0,.int .i64 7,.bool false,.int .u64 0,.slice none 0 0,.slice none 0 0] [.bool false,.slice none 0 0,.slice none 0 0,.int .i64 0,.bool false,.int .u64 0,.slice none 0 0,.slice none 0 0] 32 32;have hal:Below x1.heap.size x1 ((x1.alloc (.cells #[.bool nb,.slice A n c,.slice B m e,.int .i64 0,.bool false,.int .u64 0,.slice none 0 0,.slice none 0 0,.bool false,.slice none 0 0,.slice none 0 0,.int .i64 7,.bool false,.int .u64 0,.slice none 0 0,.slice none 0 0] 32)).alloc (.cells #[.bool false,.slice none 0 0,.slice none 0 0,.int .i64 0,.bool false,.int .u64 0,.slice none 0 0,.slice none 0 0] 32)):=hbl.1;have hE:Cs ((x1.alloc (.cells #[.bool nb,.slice A n c,.slice B m e,.int .i64 0,.bool false,.int .u64 0,.slice none 0 0,.slice none 0 0,.bool false,.slice none 0 0,.slice none 0 0,.int .i64 7,.bool false,.int .u64 0,.slice none 0 0,.slice none 0 0] 32)).alloc (.cells #[.bool false,.slice none 0 0,.slice none 0 0,.int .i64 0,.bool false,.int .u64 0,.slice none 0 0,.slice none 0 0] 32)) (x1.heap.size) (pairL nb A n c B m e 7 false) 32:=hbl.2.1;have rA:Cs ((x1.alloc (.cells #[.bool nb,.slice A n c,.slice B m e,.int .i64 0,.bool false,.int .u64 0,.slice none 0 0,.slice none 0 0,.bool false,.slice none 0 0,.slice none 0 0,.int .i64 7,.bool false,.int .u64 0,.slice none 0 0,.slice none 0 0] 32)).alloc (.cells #[.bool false,.slice none 0 0,.slice none 0 0,.int .i64 0,.bool false,.int .u64 0,.slice none 0 0,.slice none 0 0] 32)) (x1.heap.size+1) [.bool false,.slice none 0 0,.slice none 0 0,.int .i64 0,.bool false,.int .u64 0,.slice none 0 0,.slice none 0 0] 32:=hbl.2.2;replace hb0:=bt hb0 hal;replace c1:=c1.below hal c1.lt;replace cR:=cR.below hal cR.lt;replace c2:=c2.below hal c2.lt;replace h1:=h1.below hal;refine(Qig (w.heap.size+1) 2 (x1.heap.size) nb A B n c m e 7 false _ _ cR hE h1 (HT.out.keep (hb9.trans (hb0.mono hz0)).block).tab hcost7 (qv false 1 2) (qv false 1 2) (qv false 2 1) (Qdz _ (by decide)) (hid Qkv) (Qdz _ (by decide)) (hid Qkw) (hid Qkx) (Qdz _ (by decide)) (hid Qn8) (hid Qky)).mono ?_;rintro e0 x2 ⟨go,nr,Ar,kr,cr1,Br,mr,er,rfl,cO,hr,hbk⟩;replace hb0:=bt hb0 hbk;replace c1:=c1.below hbk c1.lt;replace cR:=cR.below hbk cR.lt;replace c2:=c2.below hbk c2.lt;(try replace rA:=rA.below hbk rA.lt);have hz2:=hb0.size;have l2:=c2.lt;have hrl:(x2.cell? ⟨w.heap.size+1+1,0,none⟩=some (.int .i64 6)/\x2.cell? ⟨w.heap.size+1+1,1,none⟩=some (.slice (some ⟨w.heap.size+1,0,none⟩) 2 2)):=⟨c2.cell rfl,c2.cell rfl⟩;(try (have e0:=rA.at 0 (by decide);have q0:=rA.frozen 0;have e1:=rA.at 1 (by decide);have q1:=rA.frozen 1;have e2:=rA.at 2 (by decide);have q2:=rA.frozen 2;have e3:=rA.at 3 (by decide);have q3:=rA.frozen 3;have e4:=rA.at 4 (by decide);have q4:=rA.frozen 4;have e5:=rA.at 5 (by decide);have q5:=rA.frozen 5;have e6:=rA.at 6 (by decide);have q6:=rA.frozen 6;have e7:=rA.at 7 (by decide);have q7:=rA.frozen 7;have lA:=rA.lt)))
    |((with_reducible change Calls _ _ _ (W0.drew) _);go_at_call 37;refine(r_Of 1 2 _ (by decide) (qv false 1 2) rfl (by decide) (by decide) (by decide) (by decide)).mono ?_;rintro e0 x1 ⟨v1,rfl,h1,hbk⟩;replace hb0:=bt hb0 hbk;replace c1:=c1.below hbk c1.lt;replace cR:=cR.below hbk cR.lt;replace c2:=c2.below hbk c2.lt;(try replace rA:=rA.below hbk rA.lt);obtain⟨nb,A,n,c,B,m,e,rfl⟩:=h1.agg;have m1:=hid (rfl:1=1);have hz1:=hb0.size;have l1:=c2.lt;have hrl:(x1.cell? ⟨w.heap.size+1+1,0,none⟩=some (.int .i64 6)/\x1.cell? ⟨w.heap.size+1+1,1,none⟩=some (.slice (some ⟨w.heap.size+1,0,none⟩) 2 2)):=⟨c2.cell rfl,c2.cell rfl⟩)
    |((with_reducible change Calls _ _ _ ((W0.alloc (.cells #[.bool false,.slice none 0 0,.slice none 0 0,.int .i64 0,.bool false,.int .u64 0,.slice none 0 0,.slice none 0 0] 32)).drew) _);go_at_call 37;have hal:Below W0.drew.heap.size W0.drew ((W0.alloc (.cells #[.bool false,.slice none 0 0,.slice none 0 0,.int .i64 0,.bool false,.int .u64 0,.slice none 0 0,.slice none 0 0] 32)).drew):=(Below.refl _ _).alloc (le_refl _) _;have rA:Cs ((W0.alloc (.cells #[.bool false,.slice none 0 0,.slice none 0 0,.int .i64 0,.bool false,.int .u64 0,.slice none 0 0,.slice none 0 0] 32)).drew) (W0.heap.size) [.bool false,.slice none 0 0,.slice none 0 0,.int .i64 0,.bool false,.int .u64 0,.slice none 0 0,.slice none 0 0] 32:=Cs.new W0 _ _;replace hb0:=bt hb0 hal;replace c1:=c1.below hal c1.lt;replace cR:=cR.below hal cR.lt;replace c2:=c2.below hal c2.lt;refine(r_Of 1 2 _ (by decide) (qv false 1 2) rfl (by decide) (by decide) (by decide) (by decide)).mono ?_;rintro e0 x1 ⟨v1,rfl,h1,hbk⟩;replace hb0:=bt hb0 hbk;replace c1:=c1.below hbk c1.lt;replace cR:=cR.below hbk cR.lt;replace c2:=c2.below hbk c2.lt;(try replace rA:=rA.below hbk rA.lt);obtain⟨nb,A,n,c,B,m,e,rfl⟩:=h1.agg;have m1:=hid (rfl:1=1);have hz1:=hb0.size;have l1:=c2.lt;have hrl:(x1.cell? ⟨w.heap.size+1+1,0,none⟩=some (.int .i64 6)/\x1.cell? ⟨w.heap.size+1+1,1,none⟩=some (.slice (some ⟨w.heap.size+1,0,none⟩) 2 2)):=⟨c2.cell rfl,c2.cell rfl⟩))
  all_goals
   (try clear e0 e1 e2 e3 e4 e5 e6 e7 q0 q1 q2 q3 q4 q5 q6 q7)
   go_wp2_with fail
   go_meet
   case rel=>first|with_reducible exact arel1 hb0 cO hr|with_reducible exact arel2 hb0 (by omega) rA cO hr|fail
 case rest=>
  obtain⟨g8,go,nr,Ar,kr,cr1,Br,mr,er,rfl,rfl,rA,hg8,cO,hr,hbq⟩:=hcut;replace c1:=c1.below hbq c1.lt;replace cR:=cR.below hbq cR.lt;replace c2:=c2.below hbq c2.lt;replace hb0:=hb9.trans (hbq.mono hz0);clear hbq hrl hb9;have k0:=c2.cell (k:=0) rfl;have k1:=c2.cell (k:=1) rfl;obtain⟨x0,x1,x2,x3,x4,x5,x6,x7⟩:=rA.c8;go_wp2_with fail
  refine(Qn1 (w.heap.size+1) 2 go nr Ar Br kr cr1 mr er (qv false 2 1) ⟨#[50]⟩ ⟨#[50,124,48]⟩ _ cR cO hr (HT.out.keep hb0.block) ⟨two_sz _ (by decide),by decide+kernel,by decide+kernel⟩ (hid Qzh) (hid rfl) (hid (by decide))).mono ?_;rintro e0 w2 ⟨rfl,hb1⟩;replace hb0:=bt hb0 hb1;replace c1:=c1.below hb1 c1.lt;clear hb1 k0 k1 x0 x1 x2 x3 x4 x5 x6 x7 cR c2 rA cO hr;have k0:=c1.cell (k:=0) rfl;have k1:=c1.cell (k:=1) rfl;go_wp2_with fail
  refine(Plus_c (HT.out.keep hb0.block).tab (okc2 (by decide) (by decide) (by decide)) (okc2 (by decide) (by decide) (by decide)) plus35).mono ?_;rintro e0 w3 ⟨nb',A',n',c',B',m',e',s',P',p',r',Q',q',t',rfl,hb1⟩;replace hb0:=bt hb0 hb1;replace c1:=c1.below hb1 c1.lt;clear hb1 k0 k1;have k0:=c1.cell (k:=0) rfl;have k1:=c1.cell (k:=1) rfl;have hf1:∀w:World,(Instr.field 32 (.agg #[.bool nb',.slice A' n' c',.slice B' m' e',.int .i64 3,.bool false,.int .u64 s',.slice P' p' r',.slice Q' q' t']) 1).run prog w=.ok (.int .i64 3) w:=fun _=>by kernel_rfl
  go_wp2_with fail
  refine(Qzg (HT.out.keep hb0.block).tab (okc2 (by decide) (by decide) (by decide)) (okc2 (by decide) (by decide) (by decide)) Qup).mono ?_;rintro e0 w4 ⟨nb',A',n',c',B',m',e',s',P',p',r',Q',q',t',rfl,hb1⟩;replace hb0:=bt hb0 hb1;have hf2:∀w:World,(Instr.field 32 (.agg #[.bool nb',.slice A' n' c',.slice B' m' e',.int .i64 0,.bool true,.int .u64 s',.slice P' p' r',.slice Q' q' t']) 2).run prog w=.ok (.bool true) w:=fun _=>by kernel_rfl
  go_wp2_with fail
  go_ret;exact⟨rfl,hb0⟩
theorem PRaw.preG{w:World}{A:Option Addr}{n c L:Nat}{l:List FldM}(h:PRaw w A n c l)(hn:l.length<=1000000)(hl:∀m∈l,m.2.2.1.length<=L/\m.2.2.2.length<=L)(h1:1<=L)(h2:L<=1000000):PRe w (.slice A n c) (ratL l):=by
 obtain⟨xs,e1,e2,e3⟩:=h.out;refine⟨⟨A,n,c,xs,rfl,e1,by rw [e2];unfold ratL;rw [List.length_map],fun i e q hi=>?_⟩,by unfold ratL;rw [List.length_map];exact hn⟩;unfold ratL at hi;rw [List.getElem?_map]at hi;obtain⟨m,hm,he⟩:=Option.map_eq_some_iff.1 hi;obtain⟨z0,z1,z2,a,b⟩:=e3 i m hm;have hm2:=hl m (List.mem_of_getElem? hm);simp only [Prod.mk.injEq]at he;obtain⟨rfl,rfl⟩:=he;exact⟨z0,z1,z2,a,(Qcn b hm2.1 hm2.2 h1 h2).2.1⟩
theorem WRd.szs{w:World}{l:List Value}{d:WD}{L M k:Nat}(h:WRd w l d)(hs:SzD L M d)(h1:1<=L)(h2:L<=1000000)(hM:M<=1000000)(hk:kind5 k):SzS L (takeK k d):=by
 obtain⟨q0,q1,q2,Ap,np,cp,Aw,nw,cw,rfl,hq,hp,hw⟩:=h.open;obtain⟨s1,s2,s3,s4,s5,s6⟩:=hs.open;by_cases hc:chk k d
 ·rw [Qbj hc]
  have hfq:Sz d.q L:=(Qcn hq s1 s2 h1 h2).2.2;have hpl:SzL (polL d.poly) L:=(hp.pinG (by omega) s4 h1 h2).szl;exact kinds5 (P:=fun k=>SzS L (valK k d)) (Qwx hfq) (Qzf h1 _ _) (Qwx hfq) (szS_S h1 _) (szS_P h1 hpl) k hk.1 hk.2
 ·rw [Qcb hc]
  exact Qii h1 k
theorem Qm2{w:World}{L M:Nat}(h1:1<=L)(h2:L<=1000000)(hM:M<=1000000):∀(ks:List Nat) (ds:List WD),(∀k∈ks,kind5 k)->(∀d∈ds,SzD L M d/\∃l,WRd w l d)->∀a∈takeL ks ds,SzS L a
 |k::ks,d::ds,hk,hd,a,ha=>by
  rcases List.mem_cons.1 (show a∈takeK k d::takeL ks ds from ha)with rfl|ha
  ·obtain⟨e1,l,e2⟩:=hd d (by simp)
   exact e2.szs e1 h1 h2 hM (hk k (by simp))
  ·exact Qm2 h1 h2 hM ks ds (fun j hj=>hk j (by simp [hj])) (fun x hx=>hd x (by simp [hx])) a ha
 |[],_,_,_,a,ha=>by simp [takeL]at ha
 |_::_,[],_,_,a,ha=>by simp [takeL]at ha
theorem WRd.szw{w:World}{l:List Value}{d:WD}{L M:Nat}{r:Rg}(hr:okRg r)(h:WRd w l d)(hs:SzD L M d)(h1:1<=L)(h2:L<=1000000)(hM:M<=1000000):SzW L (takeR r d):=by
 cases r with
 |one k=>
  rw [Qhz];exact⟨h.szs hs h1 h2 hM hr,fun a ha=>by cases ha⟩
 |prod ks=>
  by_cases hc:chkR (.prod ks) d
  ·rw [Qda hc]
   refine⟨Qul h1,Qm2 (w:=w) h1 h2 hM ks d.parts hr.2.2 (fun x hx=>?_)⟩;obtain⟨q0,q1,q2,Ap,np,cp,Aw,nw,cw,rfl,hq,hp,hw⟩:=h.open;obtain⟨s1,s2,s3,s4,s5,s6⟩:=hs.open;obtain⟨xs,e1,e2,f,e3,e4⟩:=hw;obtain⟨j,hj⟩:=List.mem_iff_getElem?.1 hx;exact⟨s6 x hx,f j,e4 j x hj⟩
  ·rw [Qd9 hc]
   exact Qga h1 _
theorem Qm3(k:Int)(A:Option Addr)(b o j n c:Nat)(x:Int)(w:World)(hx:w.cell? ⟨b,o+j,none⟩=some (.int .i64 x))(hb:b<w.heap.size)(hj:j<n)(hA:A=some ⟨b,o,none⟩):Calls prog 48 #[.agg #[.int .i64 k,.slice A n c],.int .i64 (j:Int)] w (RetV w (.agg #[.int .i64 x,.slice none 0 0])):=by
 subst hA;obtain⟨hb0,c1,c2⟩:=blk2 w [.int .i64 k,.slice (some ⟨b,o,none⟩) n c] [.int .i64 0,.slice none 0 0] 24 24;have a1:=c1.cell (k:=1) rfl;have hlt:(j:Int)<(n:Int):=by omega
 have h0i:¬(j:Int)<0:=by omega
 have hxx:=(World.cell?_of_block (w:=w) (hb0.block b hb)).trans hx;obtain⟨f0,f1⟩:=(show _/\_ from⟨c2.frozen 0,c2.frozen 1⟩);have z0:=c2.cell (k:=0) rfl;have z1:=c2.cell (k:=1) rfl;clear hx hb hj;go_enter func48,ntmps48;go_wp2_with fail
 obtain⟨hb9,_,c9⟩:=blk2 w [.int .i64 k,.slice (some ⟨b,o,none⟩) n c] [.int .i64 x,.slice none 0 0] 24 24;refine Qak (l:=[.int .i64 x,.slice none 0 0]) results48 underlying24 (by kernel_rfl) rfl c9 rfl ?_;exact⟨rfl,hb9⟩
theorem rConst1(v:Value)(w:World)(h:Inr w v 1):Calls prog 49 #[v] w (RetPol w (listOf (constC 1))):=by
 obtain⟨z0,Z,zn,zc,Z',zm,ze,rfl⟩:=h.agg;obtain⟨hb1,c1⟩:=blk1 w [.bool z0,.slice Z zn zc,.slice Z' zm ze] 27;have h1:=h.below hb1;have he0:([]:List Mon).take (place [] ((0,0,0):Ex))++([((0,0,0),(1:Rat))]++([]:List Mon).drop (place [] ((0,0,0):Ex)))=listOf (addAt (co []) (0,0,0) 1):=Quf (l:=[]) ⟨fun m hm=>absurd hm (List.not_mem_nil),List.Pairwise.nil⟩ (by decide) (by decide) (fun x hx=>by simp at hx);have HE:Hid (listOf (constC 1)=[((0,0,0),(1:Rat))]):=hid (by
  have h2:listOf (addAt (co []) (0,0,0) (1:Rat))=listOf (constC 1):=Qd7 fun e _=>by unfold addAt constC co sumL;simp only [List.foldr_nil];split<;>grind
  rw [<-h2,<-he0];simp)
 rw [HE.out];clear he0;have y0:=c1.cell (k:=0) rfl;have y1:=c1.cell (k:=1) rfl;have y2:=c1.cell (k:=2) rfl;go_enter func49,ntmps49;go_wp2_with fail
 refine(Qll _ 1 _ h1).mono ?_;rintro e2 w2 ⟨v2,rfl,hq2,hb2⟩;have hB2:=bt hb1 hb2;obtain⟨x0,X,xn,xc,X',xm,xe,rfl⟩:=hq2.agg;clear y0 y1 y2 hb2;go_wp2_with fail
 refine(Qn6 0 (0,0,0) 1 x0 X X' xn xc xm xe w2 hq2 (Qfe 200000 (by decide)) (by decide) (by decide)).mono ?_;rintro e3 w3 ⟨v3,rfl,hp3,hb3⟩;go_wp2_with fail
 go_ret;exact⟨v3,rfl,hp3,bt hB2 hb3⟩
theorem Qq6(k:Int)(l:List Int)(A:Option Addr)(n c:Nat)(w:World)(h:IntR w l A n c)(hr:(ringOf k l).isSome=false):Calls prog 21 #[.agg #[.int .i64 k,.slice A n c]] w (RetX 0 w blankD):=by
 obtain⟨hb0,c1,c2,c3⟩:=blk3 w [.int .i64 k,.slice A n c] [.bool false,.slice none 0 0,.slice none 0 0,.int .i64 0,.bool false,.int .u64 0,.slice none 0 0,.slice none 0 0] [.bool false,.slice none 0 0,.slice none 0 0,.int .i64 0,.bool false,.int .u64 0,.slice none 0 0,.slice none 0 0] 24 32 32;have HV:=hid (fun wa (hb:Below w.heap.size w wa)=>Qaq k l A n c wa false (h.below hb) (hid hr));go_enter func21,ntmps21;go_wp2_with fail
 refine(HV.out _ hb0).mono ?_;rintro e0 w1 ⟨rfl,hb1⟩;replace hb0:=bt hb0 hb1;replace c1:=c1.below hb1 c1.lt;replace c2:=c2.below hb1 c2.lt;replace c3:=c3.below hb1 c3.lt;clear hb1 HV;have r0:=c1.cell (k:=0) rfl;have r1:=c1.cell (k:=1) rfl;obtain⟨a0,a1,a2,a3,a4,a5,a6,a7⟩:=c3.c8;obtain⟨f0,f1,f2,f3,f4,f5,f6,f7⟩:=c3.f8;obtain⟨b0,b1,b2,b3,b4,b5,b6,b7⟩:=c2.c8;obtain⟨g0,g1,g2,g3,g4,g5,g6,g7⟩:=c2.f8;go_wp2_with fail
 refine Qak (l:=[.bool false,.slice none 0 0,.slice none 0 0,.int .i64 0,.bool false,.int .u64 0,.slice none 0 0,.slice none 0 0]) results21 underlying32 (by kernel_rfl) rfl (Qaj c2 rfl _ _ _ _ _ _ _ _) rfl ?_;exact⟨_,rfl,(Qea _).wst rfl,Qam hb0 (by omega) _ _ _ _ _ _ _ _⟩
theorem Quq(k:Int)(l:List Int)(A:Option Addr)(n c:Nat)(w:World)(h:IntR w l A n c)(hr:(ringOf k l).isSome=false):Calls prog 23 #[.agg #[.int .i64 k,.slice A n c]] w (RetX 0 w blankD):=by
 obtain⟨hb0,c1,c2,c3⟩:=blk3 w [.int .i64 k,.slice A n c] [.bool false,.slice none 0 0,.slice none 0 0,.int .i64 0,.bool false,.int .u64 0,.slice none 0 0,.slice none 0 0] [.bool false,.slice none 0 0,.slice none 0 0,.int .i64 0,.bool false,.int .u64 0,.slice none 0 0,.slice none 0 0] 24 32 32;have HV:=hid (fun wa (hb:Below w.heap.size w wa)=>Qaq k l A n c wa false (h.below hb) (hid hr));go_enter func23,ntmps23;go_wp2_with fail
 refine(HV.out _ hb0).mono ?_;rintro e0 w1 ⟨rfl,hb1⟩;replace hb0:=bt hb0 hb1;replace c1:=c1.below hb1 c1.lt;replace c2:=c2.below hb1 c2.lt;replace c3:=c3.below hb1 c3.lt;clear hb1 HV;have r0:=c1.cell (k:=0) rfl;have r1:=c1.cell (k:=1) rfl;obtain⟨a0,a1,a2,a3,a4,a5,a6,a7⟩:=c3.c8;obtain⟨f0,f1,f2,f3,f4,f5,f6,f7⟩:=c3.f8;obtain⟨b0,b1,b2,b3,b4,b5,b6,b7⟩:=c2.c8;obtain⟨g0,g1,g2,g3,g4,g5,g6,g7⟩:=c2.f8;go_wp2_with fail
 refine Qak (l:=[.bool false,.slice none 0 0,.slice none 0 0,.int .i64 0,.bool false,.int .u64 0,.slice none 0 0,.slice none 0 0]) results23 underlying32 (by kernel_rfl) rfl (Qaj c2 rfl _ _ _ _ _ _ _ _) rfl ?_;exact⟨_,rfl,(Qea _).wst rfl,Qam hb0 (by omega) _ _ _ _ _ _ _ _⟩
theorem Qzi(A:Option Addr)(c:Nat)(w:World):Calls prog 21 #[.agg #[.int .i64 1,.slice A 0 c]] w (RetX 0 w (dOf (zeroK 1))):=by
 obtain⟨hb0,c1,c2,c3⟩:=blk3 w [.int .i64 1,.slice A 0 c] [.bool false,.slice none 0 0,.slice none 0 0,.int .i64 0,.bool false,.int .u64 0,.slice none 0 0,.slice none 0 0] [.bool false,.slice none 0 0,.slice none 0 0,.int .i64 0,.bool false,.int .u64 0,.slice none 0 0,.slice none 0 0] 24 32 32;have HV:=hid (fun wa (hb:Below w.heap.size w wa)=>Qaq 1 [] A 0 c wa true (Rd.nil _ _ _) (hid rfl));go_enter func21,ntmps21;go_wp2_with fail
 refine(HV.out _ hb0).mono ?_;rintro e0 w1 ⟨rfl,hb1⟩;replace hb0:=bt hb0 hb1;replace c1:=c1.below hb1 c1.lt;replace c2:=c2.below hb1 c2.lt;replace c3:=c3.below hb1 c3.lt;clear hb1 HV;have r0:=c1.cell (k:=0) rfl;have r1:=c1.cell (k:=1) rfl;obtain⟨a0,a1,a2,a3,a4,a5,a6,a7⟩:=c3.c8;obtain⟨f0,f1,f2,f3,f4,f5,f6,f7⟩:=c3.f8;obtain⟨b0,b1,b2,b3,b4,b5,b6,b7⟩:=c2.c8;obtain⟨g0,g1,g2,g3,g4,g5,g6,g7⟩:=c2.f8;go_wp2_with fail
 refine wp_loop_rounds 1 ?_;rw [rounds_succ];go_wp2_with fail
 have d2:=c2.far (p:=⟨w.heap.size+1+1,4,none⟩) (by simp) (.bool false);refine Qak (l:=[.bool false,.slice none 0 0,.slice none 0 0,.int .i64 0,.bool false,.int .u64 0,.slice none 0 0,.slice none 0 0]) results21 underlying32 (by kernel_rfl) rfl (Qaj d2 rfl _ _ _ _ _ _ _ _) rfl ?_;exact Qb8 (Qgp _) (Qam (hb0.setCell (p:=⟨w.heap.size+1+1,4,none⟩) (by simp;omega) _) (by omega) _ _ _ _ _ _ _ _)
theorem Qzj(A:Option Addr)(c:Nat)(w:World):Calls prog 21 #[.agg #[.int .i64 2,.slice A 0 c]] w (RetX 0 w (dOf (zeroK 2))):=by
 obtain⟨hb0,c1,c2,c3⟩:=blk3 w [.int .i64 2,.slice A 0 c] [.bool false,.slice none 0 0,.slice none 0 0,.int .i64 0,.bool false,.int .u64 0,.slice none 0 0,.slice none 0 0] [.bool false,.slice none 0 0,.slice none 0 0,.int .i64 0,.bool false,.int .u64 0,.slice none 0 0,.slice none 0 0] 24 32 32;have HV:=hid (fun wa (hb:Below w.heap.size w wa)=>Qaq 2 [] A 0 c wa true (Rd.nil _ _ _) (hid rfl));go_enter func21,ntmps21;go_wp2_with fail
 refine(HV.out _ hb0).mono ?_;rintro e0 w1 ⟨rfl,hb1⟩;replace hb0:=bt hb0 hb1;replace c1:=c1.below hb1 c1.lt;replace c2:=c2.below hb1 c2.lt;replace c3:=c3.below hb1 c3.lt;clear hb1 HV;have r0:=c1.cell (k:=0) rfl;have r1:=c1.cell (k:=1) rfl;obtain⟨a0,a1,a2,a3,a4,a5,a6,a7⟩:=c3.c8;obtain⟨f0,f1,f2,f3,f4,f5,f6,f7⟩:=c3.f8;obtain⟨b0,b1,b2,b3,b4,b5,b6,b7⟩:=c2.c8;obtain⟨g0,g1,g2,g3,g4,g5,g6,g7⟩:=c2.f8;go_wp2_with fail
 refine wp_loop_rounds 1 ?_;rw [rounds_succ];go_wp2_with fail
 have d2:=c2.far (p:=⟨w.heap.size+1+1,4,none⟩) (by simp) (.bool true);refine Qak (l:=[.bool false,.slice none 0 0,.slice none 0 0,.int .i64 0,.bool true,.int .u64 0,.slice none 0 0,.slice none 0 0]) results21 underlying32 (by kernel_rfl) rfl (Qaj d2 rfl _ _ _ _ _ _ _ _) rfl ?_;exact Qb8 (Qgk _ 0 true) (Qam (hb0.setCell (p:=⟨w.heap.size+1+1,4,none⟩) (by simp;omega) _) (by omega) _ _ _ _ _ _ _ _)
theorem Qzk(A:Option Addr)(c:Nat)(w:World):Calls prog 21 #[.agg #[.int .i64 3,.slice A 0 c]] w (RetX 0 w (dOf (zeroK 3))):=by
 obtain⟨hb0,c1,c2,c3⟩:=blk3 w [.int .i64 3,.slice A 0 c] [.bool false,.slice none 0 0,.slice none 0 0,.int .i64 0,.bool false,.int .u64 0,.slice none 0 0,.slice none 0 0] [.bool false,.slice none 0 0,.slice none 0 0,.int .i64 0,.bool false,.int .u64 0,.slice none 0 0,.slice none 0 0] 24 32 32;have HV:=hid (fun wa (hb:Below w.heap.size w wa)=>Qaq 3 [] A 0 c wa true (Rd.nil _ _ _) (hid rfl));go_enter func21,ntmps21;go_wp2_with fail
 refine(HV.out _ hb0).mono ?_;rintro e0 w1 ⟨rfl,hb1⟩;replace hb0:=bt hb0 hb1;replace c1:=c1.below hb1 c1.lt;replace c2:=c2.below hb1 c2.lt;replace c3:=c3.below hb1 c3.lt;clear hb1 HV;have r0:=c1.cell (k:=0) rfl;have r1:=c1.cell (k:=1) rfl;obtain⟨a0,a1,a2,a3,a4,a5,a6,a7⟩:=c3.c8;obtain⟨f0,f1,f2,f3,f4,f5,f6,f7⟩:=c3.f8;obtain⟨b0,b1,b2,b3,b4,b5,b6,b7⟩:=c2.c8;obtain⟨g0,g1,g2,g3,g4,g5,g6,g7⟩:=c2.f8;go_wp2_with fail
 refine wp_loop_rounds 1 ?_;rw [rounds_succ];go_wp2_with fail
 have d2:=c2.far (p:=⟨w.heap.size+1+1,4,none⟩) (by simp) (.bool false);refine Qak (l:=[.bool false,.slice none 0 0,.slice none 0 0,.int .i64 0,.bool false,.int .u64 0,.slice none 0 0,.slice none 0 0]) results21 underlying32 (by kernel_rfl) rfl (Qaj d2 rfl _ _ _ _ _ _ _ _) rfl ?_;exact Qb8 (Qgp _) (Qam (hb0.setCell (p:=⟨w.heap.size+1+1,4,none⟩) (by simp;omega) _) (by omega) _ _ _ _ _ _ _ _)
theorem Qzl(A:Option Addr)(c:Nat)(w:World):Calls prog 21 #[.agg #[.int .i64 4,.slice A 0 c]] w (RetX 0 w (dOf (zeroK 4))):=by
 obtain⟨hb0,c1,c2,c3⟩:=blk3 w [.int .i64 4,.slice A 0 c] [.bool false,.slice none 0 0,.slice none 0 0,.int .i64 0,.bool false,.int .u64 0,.slice none 0 0,.slice none 0 0] [.bool false,.slice none 0 0,.slice none 0 0,.int .i64 0,.bool false,.int .u64 0,.slice none 0 0,.slice none 0 0] 24 32 32;have HV:=hid (fun wa (hb:Below w.heap.size w wa)=>Qaq 4 [] A 0 c wa true (Rd.nil _ _ _) (hid rfl));go_enter func21,ntmps21;go_wp2_with fail
 refine(HV.out _ hb0).mono ?_;rintro e0 w1 ⟨rfl,hb1⟩;replace hb0:=bt hb0 hb1;replace c1:=c1.below hb1 c1.lt;replace c2:=c2.below hb1 c2.lt;replace c3:=c3.below hb1 c3.lt;clear hb1 HV;have r0:=c1.cell (k:=0) rfl;have r1:=c1.cell (k:=1) rfl;obtain⟨a0,a1,a2,a3,a4,a5,a6,a7⟩:=c3.c8;obtain⟨f0,f1,f2,f3,f4,f5,f6,f7⟩:=c3.f8;obtain⟨b0,b1,b2,b3,b4,b5,b6,b7⟩:=c2.c8;obtain⟨g0,g1,g2,g3,g4,g5,g6,g7⟩:=c2.f8;go_wp2_with fail
 refine wp_loop_rounds 1 ?_;rw [rounds_succ];go_wp2_with fail
 have d2:=c2.far (p:=⟨w.heap.size+1+1,4,none⟩) (by simp) (.bool false);refine Qak (l:=[.bool false,.slice none 0 0,.slice none 0 0,.int .i64 0,.bool false,.int .u64 0,.slice none 0 0,.slice none 0 0]) results21 underlying32 (by kernel_rfl) rfl (Qaj d2 rfl _ _ _ _ _ _ _ _) rfl ?_;exact Qb8 (Qgp _) (Qam (hb0.setCell (p:=⟨w.heap.size+1+1,4,none⟩) (by simp;omega) _) (by omega) _ _ _ _ _ _ _ _)
theorem Qzm(A:Option Addr)(c:Nat)(w:World):Calls prog 21 #[.agg #[.int .i64 5,.slice A 0 c]] w (RetX 0 w (dOf (zeroK 5))):=by
 obtain⟨hb0,c1,c2,c3⟩:=blk3 w [.int .i64 5,.slice A 0 c] [.bool false,.slice none 0 0,.slice none 0 0,.int .i64 0,.bool false,.int .u64 0,.slice none 0 0,.slice none 0 0] [.bool false,.slice none 0 0,.slice none 0 0,.int .i64 0,.bool false,.int .u64 0,.slice none 0 0,.slice none 0 0] 24 32 32;have HV:=hid (fun wa (hb:Below w.heap.size w wa)=>Qaq 5 [] A 0 c wa true (Rd.nil _ _ _) (hid rfl));go_enter func21,ntmps21;go_wp2_with fail
 refine(HV.out _ hb0).mono ?_;rintro e0 w1 ⟨rfl,hb1⟩;replace hb0:=bt hb0 hb1;replace c1:=c1.below hb1 c1.lt;replace c2:=c2.below hb1 c2.lt;replace c3:=c3.below hb1 c3.lt;clear hb1 HV;have r0:=c1.cell (k:=0) rfl;have r1:=c1.cell (k:=1) rfl;obtain⟨a0,a1,a2,a3,a4,a5,a6,a7⟩:=c3.c8;obtain⟨f0,f1,f2,f3,f4,f5,f6,f7⟩:=c3.f8;obtain⟨b0,b1,b2,b3,b4,b5,b6,b7⟩:=c2.c8;obtain⟨g0,g1,g2,g3,g4,g5,g6,g7⟩:=c2.f8;go_wp2_with fail
 refine wp_loop_rounds 1 ?_;rw [rounds_succ];go_wp2_with fail
 have d2:=c2.far (p:=⟨w.heap.size+1+1,4,none⟩) (by simp) (.bool false);refine Qak (l:=[.bool false,.slice none 0 0,.slice none 0 0,.int .i64 0,.bool false,.int .u64 0,.slice none 0 0,.slice none 0 0]) results21 underlying32 (by kernel_rfl) rfl (Qaj d2 rfl _ _ _ _ _ _ _ _) rfl ?_;exact Qb8 (Qgp _) (Qam (hb0.setCell (p:=⟨w.heap.size+1+1,4,none⟩) (by simp;omega) _) (by omega) _ _ _ _ _ _ _ _)
theorem rOne_2(A:Option Addr)(c:Nat)(w:World):Calls prog 23 #[.agg #[.int .i64 2,.slice A 0 c]] w (RetX 0 w (dOf (oneK 2))):=by
 obtain⟨hb0,c1,c2,c3⟩:=blk3 w [.int .i64 2,.slice A 0 c] [.bool false,.slice none 0 0,.slice none 0 0,.int .i64 0,.bool false,.int .u64 0,.slice none 0 0,.slice none 0 0] [.bool false,.slice none 0 0,.slice none 0 0,.int .i64 0,.bool false,.int .u64 0,.slice none 0 0,.slice none 0 0] 24 32 32;have HV:=hid (fun wa (hb:Below w.heap.size w wa)=>Qaq 2 [] A 0 c wa true (Rd.nil _ _ _) (hid rfl));go_enter func23,ntmps23;go_wp2_with fail
 refine(HV.out _ hb0).mono ?_;rintro e0 w1 ⟨rfl,hb1⟩;replace hb0:=bt hb0 hb1;replace c1:=c1.below hb1 c1.lt;replace c2:=c2.below hb1 c2.lt;replace c3:=c3.below hb1 c3.lt;clear hb1 HV;have r0:=c1.cell (k:=0) rfl;have r1:=c1.cell (k:=1) rfl;obtain⟨a0,a1,a2,a3,a4,a5,a6,a7⟩:=c3.c8;obtain⟨f0,f1,f2,f3,f4,f5,f6,f7⟩:=c3.f8;obtain⟨b0,b1,b2,b3,b4,b5,b6,b7⟩:=c2.c8;obtain⟨g0,g1,g2,g3,g4,g5,g6,g7⟩:=c2.f8;go_wp2_with fail
 refine wp_loop_rounds 1 ?_;rw [rounds_succ];go_wp2_with fail
 refine Qak (l:=[.bool false,.slice none 0 0,.slice none 0 0,.int .i64 0,.bool false,.int .u64 0,.slice none 0 0,.slice none 0 0]) results23 underlying32 (by kernel_rfl) rfl (Qaj c2 rfl _ _ _ _ _ _ _ _) rfl ?_;exact Qb8 (Qgp _) (Qam hb0 (by omega) _ _ _ _ _ _ _ _)
theorem rOne_4(A:Option Addr)(c:Nat)(w:World):Calls prog 23 #[.agg #[.int .i64 4,.slice A 0 c]] w (RetX 0 w (dOf (oneK 4))):=by
 obtain⟨hb0,c1,c2,c3⟩:=blk3 w [.int .i64 4,.slice A 0 c] [.bool false,.slice none 0 0,.slice none 0 0,.int .i64 0,.bool false,.int .u64 0,.slice none 0 0,.slice none 0 0] [.bool false,.slice none 0 0,.slice none 0 0,.int .i64 0,.bool false,.int .u64 0,.slice none 0 0,.slice none 0 0] 24 32 32;have HV:=hid (fun wa (hb:Below w.heap.size w wa)=>Qaq 4 [] A 0 c wa true (Rd.nil _ _ _) (hid rfl));go_enter func23,ntmps23;go_wp2_with fail
 refine(HV.out _ hb0).mono ?_;rintro e0 w1 ⟨rfl,hb1⟩;replace hb0:=bt hb0 hb1;replace c1:=c1.below hb1 c1.lt;replace c2:=c2.below hb1 c2.lt;replace c3:=c3.below hb1 c3.lt;clear hb1 HV;have r0:=c1.cell (k:=0) rfl;have r1:=c1.cell (k:=1) rfl;obtain⟨a0,a1,a2,a3,a4,a5,a6,a7⟩:=c3.c8;obtain⟨f0,f1,f2,f3,f4,f5,f6,f7⟩:=c3.f8;obtain⟨b0,b1,b2,b3,b4,b5,b6,b7⟩:=c2.c8;obtain⟨g0,g1,g2,g3,g4,g5,g6,g7⟩:=c2.f8;go_wp2_with fail
 refine wp_loop_rounds 1 ?_;rw [rounds_succ];go_wp2_with fail
 have d2:=c2.far (p:=⟨w.heap.size+1+1,5,none⟩) (by simp) (.int .u64 18446744073709551615);refine Qak (l:=[.bool false,.slice none 0 0,.slice none 0 0,.int .i64 0,.bool false,.int .u64 18446744073709551615,.slice none 0 0,.slice none 0 0]) results23 underlying32 (by kernel_rfl) rfl (Qaj d2 rfl _ _ _ _ _ _ _ _) rfl ?_;exact Qb8 (Qvo _ 18446744073709551615) (Qam (hb0.setCell (p:=⟨w.heap.size+1+1,5,none⟩) (by simp;omega) _) (by omega) _ _ _ _ _ _ _ _)
theorem rOne_1(A:Option Addr)(c:Nat)(w:World):Calls prog 23 #[.agg #[.int .i64 1,.slice A 0 c]] w (RetX 0 w (dOf (oneK 1))):=by
 obtain⟨hb0,c1,c2,c3⟩:=blk3 w [.int .i64 1,.slice A 0 c] [.bool false,.slice none 0 0,.slice none 0 0,.int .i64 0,.bool false,.int .u64 0,.slice none 0 0,.slice none 0 0] [.bool false,.slice none 0 0,.slice none 0 0,.int .i64 0,.bool false,.int .u64 0,.slice none 0 0,.slice none 0 0] 24 32 32;have HV:=hid (fun wa (hb:Below w.heap.size w wa)=>Qaq 1 [] A 0 c wa true (Rd.nil _ _ _) (hid rfl));go_enter func23,ntmps23;go_wp2_with fail
 refine(HV.out _ hb0).mono ?_;rintro e0 w1 ⟨rfl,hb1⟩;replace hb0:=bt hb0 hb1;replace c1:=c1.below hb1 c1.lt;replace c2:=c2.below hb1 c2.lt;replace c3:=c3.below hb1 c3.lt;clear hb1 HV;have r0:=c1.cell (k:=0) rfl;have r1:=c1.cell (k:=1) rfl;obtain⟨a0,a1,a2,a3,a4,a5,a6,a7⟩:=c3.c8;obtain⟨f0,f1,f2,f3,f4,f5,f6,f7⟩:=c3.f8;obtain⟨b0,b1,b2,b3,b4,b5,b6,b7⟩:=c2.c8;obtain⟨g0,g1,g2,g3,g4,g5,g6,g7⟩:=c2.f8;go_wp2_with fail
 refine(r_Of 1 1 _ (by decide) (1:Rat) (by decide+kernel) (by decide) (by decide) (by decide) (by decide)).mono ?_;rintro e0 w2 ⟨v1,rfl,hq,hb1⟩;replace hb0:=bt hb0 hb1;replace c1:=c1.below hb1 c1.lt;replace c2:=c2.below hb1 c2.lt;replace c3:=c3.below hb1 c3.lt;clear hb1 r0 r1 a0 a1 a2 a3 a4 a5 a6 a7 f0 f1 f2 f3 f4 f5 f6 f7 b0 b1 b2 b3 b4 b5 b6 b7 g0 g1 g2 g3 g4 g5 g6 g7;obtain⟨D,n',c',D',m',e',rfl,h1,h2⟩:=hq;obtain⟨nb,hnb⟩:∃nb,decide ((1:Rat).num<0)=nb:=⟨_,rfl⟩;have HNB:=hid hnb;have HF:=hid (And.intro h1 h2);rw [hnb];clear hnb h1 h2;have r1:=c1.cell (k:=1) rfl;obtain⟨a0,a1,a2,a3,a4,a5,a6,a7⟩:=c3.c8;obtain⟨f0,f1,f2,f3,f4,f5,f6,f7⟩:=c3.f8;obtain⟨b0,b1,b2,b3,b4,b5,b6,b7⟩:=c2.c8;obtain⟨g0,g1,g2,g3,g4,g5,g6,g7⟩:=c2.f8;go_wp2_with fail
 refine wp_loop_rounds 1 ?_;rw [rounds_succ];go_wp2_with fail
 have hs3:=c3.setL [.bool nb,.slice D n' c',.slice D' m' e',.int .i64 0,.bool false,.int .u64 0,.slice none 0 0,.slice none 0 0] rfl;have d2:=Cs.farL (g:=w.heap.size+1) (g':=w.heap.size+1+1) (by omega) [.bool nb,.slice D n' c',.slice D' m' e'] 0 c2;refine Qak (l:=[.bool nb,.slice D n' c',.slice D' m' e',.int .i64 0,.bool false,.int .u64 0,.slice none 0 0,.slice none 0 0]) results23 underlying32 (by kernel_rfl) rfl (Qaj d2 rfl _ _ _ _ _ _ _ _) rfl ?_;have hbx:=Qam (Qbk (B:=w.heap.size) (g:=w.heap.size+1+1) (by omega) [.bool nb,.slice D n' c',.slice D' m' e'] 0 hb0) (g:=w.heap.size+1) (by omega) (.bool nb) (.slice D n' c') (.slice D' m' e') (.int .i64 0) (.bool false) (.int .u64 0) (.slice none 0 0) (.slice none 0 0);have hw:Wch 0 (w.heap.size+3) w2 _:=(Wch.setL c3 Qbi (zero_le _) (by omega) [.bool nb,.slice D n' c',.slice D' m' e'] 0 w2 (fun _ _ _=>rfl) (le_refl _) rfl rfl rfl).trans (Wch.s8 d2 Qbi (zero_le _) (by omega) (.bool nb) (.slice D n' c') (.slice D' m' e') (.int .i64 0) (.bool false) (.int .u64 0) (.slice none 0 0) (.slice none 0 0));exact Qb8 (Qtc ⟨D,n',c',D',m',e',by rw [HNB.out],HF.out.1.wch hw,HF.out.2.wch hw⟩) hbx
theorem rOne_3(A:Option Addr)(c:Nat)(w:World):Calls prog 23 #[.agg #[.int .i64 3,.slice A 0 c]] w (RetX 0 w (dOf (oneK 3))):=by
 obtain⟨hb0,c1,c2,c3⟩:=blk3 w [.int .i64 3,.slice A 0 c] [.bool false,.slice none 0 0,.slice none 0 0,.int .i64 0,.bool false,.int .u64 0,.slice none 0 0,.slice none 0 0] [.bool false,.slice none 0 0,.slice none 0 0,.int .i64 0,.bool false,.int .u64 0,.slice none 0 0,.slice none 0 0] 24 32 32;have HV:=hid (fun wa (hb:Below w.heap.size w wa)=>Qaq 3 [] A 0 c wa true (Rd.nil _ _ _) (hid rfl));go_enter func23,ntmps23;go_wp2_with fail
 refine(HV.out _ hb0).mono ?_;rintro e0 w1 ⟨rfl,hb1⟩;replace hb0:=bt hb0 hb1;replace c1:=c1.below hb1 c1.lt;replace c2:=c2.below hb1 c2.lt;replace c3:=c3.below hb1 c3.lt;clear hb1 HV;have r0:=c1.cell (k:=0) rfl;have r1:=c1.cell (k:=1) rfl;obtain⟨a0,a1,a2,a3,a4,a5,a6,a7⟩:=c3.c8;obtain⟨f0,f1,f2,f3,f4,f5,f6,f7⟩:=c3.f8;obtain⟨b0,b1,b2,b3,b4,b5,b6,b7⟩:=c2.c8;obtain⟨g0,g1,g2,g3,g4,g5,g6,g7⟩:=c2.f8;go_wp2_with fail
 refine(r_Of 1 1 _ (by decide) (1:Rat) (by decide+kernel) (by decide) (by decide) (by decide) (by decide)).mono ?_;rintro e0 w2 ⟨v1,rfl,hq,hb1⟩;replace hb0:=bt hb0 hb1;replace c1:=c1.below hb1 c1.lt;replace c2:=c2.below hb1 c2.lt;replace c3:=c3.below hb1 c3.lt;clear hb1 r0 r1 a0 a1 a2 a3 a4 a5 a6 a7 f0 f1 f2 f3 f4 f5 f6 f7 b0 b1 b2 b3 b4 b5 b6 b7 g0 g1 g2 g3 g4 g5 g6 g7;obtain⟨D,n',c',D',m',e',rfl,h1,h2⟩:=hq;obtain⟨nb,hnb⟩:∃nb,decide ((1:Rat).num<0)=nb:=⟨_,rfl⟩;have HNB:=hid hnb;have HF:=hid (And.intro h1 h2);rw [hnb];clear hnb h1 h2;have r1:=c1.cell (k:=1) rfl;obtain⟨a0,a1,a2,a3,a4,a5,a6,a7⟩:=c3.c8;obtain⟨f0,f1,f2,f3,f4,f5,f6,f7⟩:=c3.f8;obtain⟨b0,b1,b2,b3,b4,b5,b6,b7⟩:=c2.c8;obtain⟨g0,g1,g2,g3,g4,g5,g6,g7⟩:=c2.f8;go_wp2_with fail
 refine wp_loop_rounds 1 ?_;rw [rounds_succ];go_wp2_with fail
 have hs3:=c3.setL [.bool nb,.slice D n' c',.slice D' m' e',.int .i64 0,.bool false,.int .u64 0,.slice none 0 0,.slice none 0 0] rfl;have d2:=Cs.farL (g:=w.heap.size+1) (g':=w.heap.size+1+1) (by omega) [.bool nb,.slice D n' c',.slice D' m' e'] 0 c2;refine Qak (l:=[.bool nb,.slice D n' c',.slice D' m' e',.int .i64 0,.bool false,.int .u64 0,.slice none 0 0,.slice none 0 0]) results23 underlying32 (by kernel_rfl) rfl (Qaj d2 rfl _ _ _ _ _ _ _ _) rfl ?_;have hbx:=Qam (Qbk (B:=w.heap.size) (g:=w.heap.size+1+1) (by omega) [.bool nb,.slice D n' c',.slice D' m' e'] 0 hb0) (g:=w.heap.size+1) (by omega) (.bool nb) (.slice D n' c') (.slice D' m' e') (.int .i64 0) (.bool false) (.int .u64 0) (.slice none 0 0) (.slice none 0 0);have hw:Wch 0 (w.heap.size+3) w2 _:=(Wch.setL c3 Qbi (zero_le _) (by omega) [.bool nb,.slice D n' c',.slice D' m' e'] 0 w2 (fun _ _ _=>rfl) (le_refl _) rfl rfl rfl).trans (Wch.s8 d2 Qbi (zero_le _) (by omega) (.bool nb) (.slice D n' c') (.slice D' m' e') (.int .i64 0) (.bool false) (.int .u64 0) (.slice none 0 0) (.slice none 0 0));exact Qb8 (Qtc ⟨D,n',c',D',m',e',by rw [HNB.out],HF.out.1.wch hw,HF.out.2.wch hw⟩) hbx
theorem rOne_5(A:Option Addr)(c:Nat)(w:World):Calls prog 23 #[.agg #[.int .i64 5,.slice A 0 c]] w (RetX 0 w (dOf (oneK 5))):=by
 obtain⟨hb0,c1,c2,c3⟩:=blk3 w [.int .i64 5,.slice A 0 c] [.bool false,.slice none 0 0,.slice none 0 0,.int .i64 0,.bool false,.int .u64 0,.slice none 0 0,.slice none 0 0] [.bool false,.slice none 0 0,.slice none 0 0,.int .i64 0,.bool false,.int .u64 0,.slice none 0 0,.slice none 0 0] 24 32 32;have HV:=hid (fun wa (hb:Below w.heap.size w wa)=>Qaq 5 [] A 0 c wa true (Rd.nil _ _ _) (hid rfl));go_enter func23,ntmps23;go_wp2_with fail
 refine(HV.out _ hb0).mono ?_;rintro e0 w1 ⟨rfl,hb1⟩;replace hb0:=bt hb0 hb1;replace c1:=c1.below hb1 c1.lt;replace c2:=c2.below hb1 c2.lt;replace c3:=c3.below hb1 c3.lt;clear hb1 HV;have r0:=c1.cell (k:=0) rfl;have r1:=c1.cell (k:=1) rfl;obtain⟨a0,a1,a2,a3,a4,a5,a6,a7⟩:=c3.c8;obtain⟨f0,f1,f2,f3,f4,f5,f6,f7⟩:=c3.f8;obtain⟨b0,b1,b2,b3,b4,b5,b6,b7⟩:=c2.c8;obtain⟨g0,g1,g2,g3,g4,g5,g6,g7⟩:=c2.f8;go_wp2_with fail
 refine(r_Of 1 1 _ (by decide) (1:Rat) (by decide+kernel) (by decide) (by decide) (by decide) (by decide)).mono ?_;rintro e0 w2 ⟨v1,rfl,hq,hb1⟩;replace hb0:=bt hb0 hb1;replace c1:=c1.below hb1 c1.lt;replace c2:=c2.below hb1 c2.lt;replace c3:=c3.below hb1 c3.lt;clear hb1 r0 r1 a0 a1 a2 a3 a4 a5 a6 a7 f0 f1 f2 f3 f4 f5 f6 f7 b0 b1 b2 b3 b4 b5 b6 b7 g0 g1 g2 g3 g4 g5 g6 g7;have HQ:=hid (rConst1 v1 w2 (hq.inr (Qfe 200000 (by decide)) (by decide)));clear hq;go_wp2_with fail
 refine HQ.out.mono ?_;rintro e0 w3 ⟨v2,rfl,hp,hb1⟩;replace hb0:=bt hb0 hb1;replace c1:=c1.below hb1 c1.lt;replace c2:=c2.below hb1 c2.lt;replace c3:=c3.below hb1 c3.lt;obtain⟨D,n',c',rfl⟩:=hp.sl3;have HP:=hid hp.praw;clear hb1 hp HQ;have r1:=c1.cell (k:=1) rfl;obtain⟨a0,a1,a2,a3,a4,a5,a6,a7⟩:=c3.c8;obtain⟨f0,f1,f2,f3,f4,f5,f6,f7⟩:=c3.f8;obtain⟨b0,b1,b2,b3,b4,b5,b6,b7⟩:=c2.c8;obtain⟨g0,g1,g2,g3,g4,g5,g6,g7⟩:=c2.f8;go_wp2_with fail
 refine wp_loop_rounds 1 ?_;rw [rounds_succ];go_wp2_with fail
 have d2:=Cs.farL (g:=w.heap.size+1) (g':=w.heap.size+1+1) (by omega) [.slice D n' c'] 6 c2;refine Qak (l:=[.bool false,.slice none 0 0,.slice none 0 0,.int .i64 0,.bool false,.int .u64 0,.slice D n' c',.slice none 0 0]) results23 underlying32 (by kernel_rfl) rfl (Qaj d2 rfl _ _ _ _ _ _ _ _) rfl ?_;have hbx:=Qam (Qbk (B:=w.heap.size) (g:=w.heap.size+1+1) (by omega) [.slice D n' c'] 6 hb0) (g:=w.heap.size+1) (by omega) (.bool false) (.slice none 0 0) (.slice none 0 0) (.int .i64 0) (.bool false) (.int .u64 0) (.slice D n' c') (.slice none 0 0);have hw:Wch 0 (w.heap.size+3) w3 _:=(Wch.setL c3 Qbi (zero_le _) (by omega) [.slice D n' c'] 6 w3 (fun _ _ _=>rfl) (le_refl _) rfl rfl rfl).trans (Wch.s8 d2 Qbi (zero_le _) (by omega) (.bool false) (.slice none 0 0) (.slice none 0 0) (.int .i64 0) (.bool false) (.int .u64 0) (.slice D n' c') (.slice none 0 0));exact Qb8 (wrd_p (HP.out.wch hw)) hbx
end Go.Proofs.YthbhgelncdnmgaaGreatDoor
