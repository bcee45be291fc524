import Derived.Test.YthbhgelncdnmgaaGreatDoorY37
import Derived.Test.YthbhgelncdnmgaaGreatDoorY38
set_option linter.unusedVariables false
set_option linter.unusedSimpArgs false
set_option maxRecDepth 20000
set_option maxHeartbeats 4000000
namespace Go.Proofs.YthbhgelncdnmgaaGreatDoor
open Go.Proofs.Tryz
open Lib (hid)
open Nat (le_refl zero_le lt_or_ge)
open Go.RowKit
def PI(w:World)(v:Value)(p:List Mon)(L:Nat):Prop:=∃raw,PIn w v raw L/\cleanL raw=p
theorem PI.below{w w':World}{v:Value}{p:List Mon}{L:Nat}(h:PI w v p L)(hb:Below w.heap.size w w'):PI w' v p L:=by
 obtain⟨raw,h1,h2⟩:=h;exact⟨raw,h1.below hb,h2⟩
theorem PI.vp{w:World}{v:Value}{p:List Mon}{L:Nat}(h:PI w v p L):VP p:=by
 obtain⟨raw,h1,rfl⟩:=h;exact Qlj raw
theorem PI.szl{w:World}{v:Value}{p:List Mon}{L:Nat}(h:PI w v p L):SzL p L:=by
 obtain⟨raw,h1,rfl⟩:=h;exact h1.szl
theorem PI.slice{w:World}{v:Value}{p:List Mon}{L:Nat}(h:PI w v p L):∃A n c,v=.slice A n c:=by
 obtain⟨raw,h1,_⟩:=h;obtain⟨A,c,e⟩:=PBy.slice h1.1;exact⟨A,_,c,e⟩
def RetPolAny(w0:World)(p:List Mon)(e:Ending)(w':World):Prop:=∃v,e=.returned v/\Pol w' v p/\Below w0.heap.size w0 w'
theorem Qki(v:Value)(p:List Mon)(L:Nat)(w:World)(hT:Tab w)(h:PI w v p L):Calls prog 187 #[v] w (RetPolAny w p):=by
 obtain⟨raw,hraw,rfl⟩:=h;obtain⟨A,n,c,rfl⟩:∃A n c,v=.slice A n c:=by
  obtain⟨A,c,e⟩:=PBy.slice hraw.1;exact⟨A,_,c,e⟩
 classical
 by_cases hv:vraw raw
 ·have hV:=Qnw _ raw L w hT hraw true (show Hid _ from⟨fun _=>hv,fun _=>rfl⟩)
  have HV:=hid hV;have HR:=hid hv;clear hV hv;go_enter func187,ntmps187;go_wp2_with fail
  refine HV.out.mono ?_;rintro e w1 ⟨rfl,hb1⟩;go_wp2_with fail
  go_ret;exact⟨_,rfl,(hraw.pol HR.out).below hb1,hb1⟩
 ·have hV:=Qnw _ raw L w hT hraw false (show Hid _ from⟨fun h=>absurd h (by decide),fun h=>absurd h hv⟩)
  have HV:=hid hV;have HR:=hid hv;clear hV hv;go_enter func187,ntmps187;go_wp2_with fail
  refine HV.out.mono ?_;rintro e w1 ⟨rfl,hb1⟩;go_wp2_with fail
  go_ret;exact⟨_,rfl,by rw [Qc7 HR.out];exact Pol.nil _ _ _,hb1⟩
theorem Qqo(q:Rat):addAt zeroC (0,0,0) q=constC q:=by
 funext f
 unfold addAt zeroC constC
 grind
theorem Qmb{q:Rat}{L:Nat}(h:Sz q L)(hL:1<=L):SzC (constC q) L:=fun e _=>by
 unfold constC;split
 ·exact h
 ·exact Qcw L hL
theorem Qqp(v:Value)(q:Rat)(w:World)(hT:Tab w)(h:Inp w v q 1000000):Calls prog 149 #[v] w (RetPol w (listOf (constC q))):=by
 obtain⟨z0,Z,zn,zc,Z',zm,ze,rfl⟩:=h.agg;have hmm:= @run_makeMap prog;obtain⟨hb1,c1⟩:=blk1 w [.bool z0,.slice Z zn zc,.slice Z' zm ze] 27;have hmade:=Sums.made (w.alloc (R1 (.bool z0) (.slice Z zn zc) (.slice Z' zm ze)));rw [World.size_alloc]at hmade;have hb2:Below w.heap.size w ((w.alloc (R1 (.bool z0) (.slice Z zn zc) (.slice Z' zm ze))).alloc (.map #[] 0)):=hb1.alloc hb1.size _;replace c1:=c1.alloc (.map #[] 0);have hT2:=hT.below hb2;have h2:=h.below hb2;go_enter func149,ntmps149;go_wp2_with fail
 have hsz:Sz (zeroC (0,0,0)) 1000000:=Qcw _ (by omega);refine(Qg9 (w.heap.size+1) 0 (0,0,0) _ q zeroC _ hT2 hmade (by omega) (by decide) h2 hsz).mono ?_;rintro e2 w2 ⟨rfl,hS2,hg2⟩;have hb3:Below w.heap.size w w2:=hb2.grown hg2 hb2.size (fun k e=>by cases e;omega);rw [Qqo]at hS2;have hsq:=h.sz;go_wp2_with fail
 refine(Qib _ 1 (constC q) w2 (hT.below hb3) hS2 (by omega) (Qmb hsq (by omega))).mono ?_;rintro e3 w3 ⟨v3,rfl,hp3,hb4⟩;go_wp2_with fail
 go_ret;exact⟨v3,rfl,hp3,bt hb3 hb4⟩
theorem Qkj(L:Nat)(h:1<=L):Sz 1 L:=⟨by show(limbs 1).length<=L;rw [Qay];exact h,by show(limbs 1).length<=L;rw [Qay];exact h⟩
theorem Inp.grm{w w':World}{v:Value}{q:Rat}{L b:Nat}(h:Inp w v q L)(hg:w.grownBy w' (some b)){es:Array MapEntry}{ck:Nat}(hm:w.heap[b]? =some (.map es ck)):Inp w' v q L:=by
 obtain⟨neg,A,n,c,A',m,c',ln,ld,e,h1,h2,h3,h4,h5,h6⟩:=h;exact⟨neg,A,n,c,A',m,c',ln,ld,e,h1.grm hg hm,h2.grm hg hm,h3,h4,h5,h6⟩
theorem PIn.grm{w w':World}{v:Value}{l:List RawM}{L b:Nat}(h:PIn w v l L)(hg:w.grownBy w' (some b)){es:Array MapEntry}{ck:Nat}(hm:w.heap[b]? =some (.map es ck)):PIn w' v l L:=by
 obtain⟨⟨A,n,c,xs,e,h1,h2,h3⟩,h4⟩:=h;refine⟨⟨A,n,c,xs,e,⟨h1.len,h1.cap,fun hn=>?_⟩,h2,fun i e q hi=>?_⟩,h4⟩
 ·obtain⟨b',o,hA,hb,hc⟩:=h1.cells hn
  refine⟨b',o,hA,Nat.lt_of_lt_of_le hb hg.size,fun i x hx j v hv=>?_⟩;have hcell:=hc i x hx j v hv;refine(World.cell?_of_block (w:=w) (hg.block b' hb (fun e=>?_))).trans hcell;cases e;simp [World.cell?,hm]at hcell
 ·obtain⟨z0,z1,z2,hx,hr⟩:=h3 i e q hi
  exact⟨z0,z1,z2,hx,hr.grm hg hm⟩
theorem PI.grm{w w':World}{v:Value}{p:List Mon}{L b:Nat}(h:PI w v p L)(hg:w.grownBy w' (some b)){es:Array MapEntry}{ck:Nat}(hm:w.heap[b]? =some (.map es ck)):PI w' v p L:=by
 obtain⟨raw,h1,h2⟩:=h;exact⟨raw,h1.grm hg hm,h2⟩
theorem Qmc(c:Co)(l:List Mon):addL c l=addM c l (0,0,0) 1:=by
 unfold addL addM
 congr 1
 funext c m
 rw [Qlf,Rat.mul_one]
theorem Qmd(c:Co)(l:List Mon)(m:Mon):addL c (l++[m])=addAt (addL c l) m.1 m.2:=by
 unfold addL;rw [List.foldl_append];rfl
theorem Qjj{q:List Mon}(hq:(q.map (·.1)).Nodup){k:Nat}{m:Mon}(hk:q[k]? =some m)(c:Co):addL c (q.take k) m.1=c m.1:=by
 have:=Qji hq hk c (0,0,0) 1;rw [Qmc]
 rwa [Qlf]at this
theorem Qpa{c:Co}{B M:Nat}(h:SzC c B){q:List Mon}(hq:VP q){L:Nat}(hl:SzL q L)(hM:B+L+2<=M):SzC (addL c q) M:=by
 rw [Qmc];exact Qo9 h (Qel hq) (Qkj 1 (le_refl _)) hl (by omega)
theorem Add_p(v u:Value)(p q:List Mon)(L:Nat)(w:World)(hT:Tab w)(h:PI w v p L)(h':PI w u q L)(hL:L<=400000):Calls prog 151 #[v,u] w (RetPol w (listOf (addC (co p) (co q)))):=by
 obtain⟨_,_,_,rfl⟩:=h.slice;obtain⟨_,_,_,rfl⟩:=h'.slice;have hmm:= @run_makeMap prog;have hb1:Below w.heap.size w (w.alloc (.map #[] 0)):=(Below.refl _ _).alloc (le_refl _) _;have hmade:=Sums.made w;have hT1:=hT.below hb1;have h1:=h.below hb1;have h1':=h'.below hb1;have hvp:=h.vp;have hvq:=h'.vp;have hsp:=h.szl;have hsq:=h'.szl;have hlp:=Qc9 hvp;have hlq:=Qc9 hvq;have hz1:SzC zeroC 1:=Qo8 1 (le_refl _);have hz2:SzC (addL zeroC p) (L+3):=Qpa hz1 hvp hsp (by omega);have hz3:SzC (addL (addL zeroC p) q) 1000000:=Qpa hz2 hvq hsq (by omega);clear h h';go_enter func151,ntmps151;go_wp2_with fail
 refine(Qki _ p L _ hT1 h1).mono ?_;rintro e2 w2 ⟨v2,rfl,hp2,hb2⟩;have hB2:=bt hb1 hb2;have hS2:=hmade.below hb2;have hT2:=hT1.below hb2;have h2':=h1'.below hb2;obtain⟨es0,ck0,hm0⟩:=hS2.map;obtain⟨A2,c2,rfl⟩:=hp2.slice;clear hb2 h1 h1' hmade hT1 hb1;go_wp2_with fail
 go_loopw [14] (fun i wr=> ∃k n',k<=p.length/\i=.int .i64 (k:Int)/\n'<=k/\Sums wr w.heap.size n' (addL zeroC (p.take k))/\w2.grownBy wr (some w.heap.size)) (fun i _=>(p.length-intOf i).toNat)
 case atStart=>exact⟨0,0,zero_le _,rfl,le_refl _,hS2,World.grownBy.refl _ _⟩
 case round=>
  obtain⟨k,n',hk,rfl,hn',hSk,hgk⟩:=hrel;rcases lt_or_ge k p.length with hkn|hkn
  ·obtain⟨m,hm⟩:∃m,p[k]? =some m:=⟨p[k],List.getElem?_eq_getElem hkn⟩
   obtain⟨bq,oq,y0,y1,y2,rfl,hbq,hat,hcoef⟩:=hp2.at hm;obtain⟨nb,Ay,ny,cy,By,my,ey,heq⟩:=hcoef.agg;simp only [Value.agg.injEq,Array.mk.injEq,List.cons.injEq,and_true]at heq;obtain⟨rfl,rfl,rfl⟩:=heq;have hmq:m∈p:=List.mem_of_getElem? hm;have hdm:=(hvp.1 m hmq).1;obtain⟨x0,x1,x2,x3,x4,x5⟩:=hat.grm hgk hm0 hbq;have r2:=hcoef.grm hgk hm0;have t1:=hT2.grm hgk hm0;obtain⟨hb6,d6⟩:=new6 wr (.int .i64 (m.1.1:Int)) (.int .i64 (m.1.2.1:Int)) (.int .i64 (m.1.2.2:Int)) (.bool nb) (.slice Ay ny cy) (.slice By my ey);have hS6:=hSk.below hb6;have hc6:=d6.c6;have hlt:(k:Int)<(p.length:Int):=(by omega);have hgd:=Qb0 hgk hb6;have SM:=(hsp m hmq).mono (show L<=1000000 by omega);have hadd:=Qg9 w.heap.size n' m.1 _ m.2 _ _ (t1.below hb6) hS6 (by omega) hdm ((r2.below hb6).inp SM (by omega)) (by
    rw [Qjj (Qel hvp) hm];exact(hz1 m.1 hdm).mono (by omega))
   have HADD:=hid hadd;have HK:=hid hkn;have HM:=hid hm;have HN:=hid hn';clear hadd hS6 hSk hkn hm hn' r2 t1 hat hcoef;go_wp2_with fail
   clear hc6 x0 x1 x2 x3 x4 x5;refine HADD.out.mono ?_;rintro e6 w6 ⟨rfl,hS6,hg6⟩;go_wp2_with fail
   go_roundw
   case rel=>
    refine⟨k+1,n'+1,by have:=HK.out;omega,congrArg (Value.int _) (by omega),by have:=HN.out;omega,?_,Qdu hgd hg6⟩;rw [List.take_succ_eq_append_getElem HK.out,(List.getElem?_eq_some_iff.1 HM.out).2,Qmd];exact hS6
   case measure=>simp [intOf];have:=HK.out;omega
  ·obtain rfl:k=p.length:=by omega
   have hlt:¬(p.length:Int)<(p.length:Int):=(by omega);rw [List.take_length]at hSk;have hB3:Below w.heap.size w wr:=hB2.grown hgk hB2.size (fun j e=>by cases e;exact le_refl _);obtain⟨es1,ck1,hm1⟩:=hSk.map;have hT3:=hT2.grm hgk hm0;have hC3:=Qki _ q L wr hT3 (h2'.grm hgk hm0);have HC3:=hid hC3;clear hC3 h2' hp2 hS2 hm0 hT2 hB2 hgk;go_wp2_with fail
   refine HC3.out.mono ?_;rintro e4 w4 ⟨v4,rfl,hp4,hb4⟩;have hB4:=bt hB3 hb4;have hS4:=hSk.below hb4;have hT4:=hT3.below hb4;obtain⟨es4,ck4,hm4⟩:=hS4.map;obtain⟨A4,c4,rfl⟩:=hp4.slice;have HN1:=hid hn';clear hb4 hSk hT3 hm1 hB3 hn' HC3;go_wp2_with fail
   go_loopw [28] (fun i wr=> ∃k n2,k<=q.length/\i=.int .i64 (k:Int)/\n2<=n'+k/\Sums wr w.heap.size n2 (addL (addL zeroC p) (q.take k))/\w4.grownBy wr (some w.heap.size)) (fun i _=>(q.length-intOf i).toNat)
   case atStart=>exact⟨0,n',zero_le _,rfl,le_refl _,hS4,World.grownBy.refl _ _⟩
   case round=>
    obtain⟨k,n2,hk,rfl,hn2,hSk,hgk⟩:=hrel;have hn1:=HN1.out;rcases lt_or_ge k q.length with hkn|hkn
    ·obtain⟨m,hm⟩:∃m,q[k]? =some m:=⟨q[k],List.getElem?_eq_getElem hkn⟩
     obtain⟨bq,oq,y0,y1,y2,rfl,hbq,hat,hcoef⟩:=hp4.at hm;obtain⟨nb,Ay,ny,cy,By,my,ey,heq⟩:=hcoef.agg;simp only [Value.agg.injEq,Array.mk.injEq,List.cons.injEq,and_true]at heq;obtain⟨rfl,rfl,rfl⟩:=heq;have hmq:m∈q:=List.mem_of_getElem? hm;have hdm:=(hvq.1 m hmq).1;obtain⟨x0,x1,x2,x3,x4,x5⟩:=hat.grm hgk hm4 hbq;have r2:=hcoef.grm hgk hm4;have t1:=hT4.grm hgk hm4;obtain⟨hb6,d6⟩:=new6 wr (.int .i64 (m.1.1:Int)) (.int .i64 (m.1.2.1:Int)) (.int .i64 (m.1.2.2:Int)) (.bool nb) (.slice Ay ny cy) (.slice By my ey);have hS6:=hSk.below hb6;have hc6:=d6.c6;have hlt:(k:Int)<(q.length:Int):=(by omega);have hgd:=Qb0 hgk hb6;have SM:=(hsq m hmq).mono (show L<=1000000 by omega);have hadd:=Qg9 w.heap.size n2 m.1 _ m.2 _ _ (t1.below hb6) hS6 (by omega) hdm ((r2.below hb6).inp SM (by omega)) (by
      rw [Qjj (Qel hvq) hm];exact(hz2 m.1 hdm).mono (by omega))
     have HADD:=hid hadd;have HK:=hid hkn;have HM:=hid hm;have HN:=hid hn2;clear hadd hS6 hSk hkn hm hn2 hn1 r2 t1 hat hcoef;go_wp2_with fail
     clear hc6 x0 x1 x2 x3 x4 x5;refine HADD.out.mono ?_;rintro e6 w6 ⟨rfl,hS6,hg6⟩;go_wp2_with fail
     go_roundw
     case rel=>
      refine⟨k+1,n2+1,by have:=HK.out;omega,congrArg (Value.int _) (by omega),by have:=HN.out;omega,?_,Qdu hgd hg6⟩;rw [List.take_succ_eq_append_getElem HK.out,(List.getElem?_eq_some_iff.1 HM.out).2,Qmd];exact hS6
     case measure=>simp [intOf];have:=HK.out;omega
    ·obtain rfl:k=q.length:=by omega
     have hlt:¬(q.length:Int)<(q.length:Int):=(by omega);rw [List.take_length]at hSk;have hB5:Below w.heap.size w wr:=hB4.grown hgk hB4.size (fun j e=>by cases e;exact le_refl _);have hL5:=Qib _ n2 _ wr (hT4.grm hgk hm4) hSk (by omega) hz3;have HL5:=hid hL5;clear hL5 hSk hp4 hS4 hm4 hT4 hB4 hgk;go_wp2_with fail
     refine HL5.out.mono ?_;rintro e6 w6 ⟨v6,rfl,hp6,hb6⟩;go_wp2_with fail
     go_ret;refine⟨v6,rfl,?_,bt hB5 hb6⟩;have e1:listOf (addC (co p) (co q))=listOf (addL (addL zeroC p) q):=Qd7 (fun e _=>by
      rw [Qr9,Qr9];unfold addC zeroC
      grind)
     rw [e1];exact hp6
theorem PBy.grm{R R':Value->Rat->Prop}{w w':World}{v:Value}{l:List RawM}{b:Nat}(h:PBy R w v l)(hR:∀z q,R z q->R' z q)(hg:w.grownBy w' (some b)){es:Array MapEntry}{ck:Nat}(hm:w.heap[b]? =some (.map es ck)):PBy R' w' v l:=by
 obtain⟨A,n,c,xs,e,h1,h2,h3⟩:=h;refine⟨A,n,c,xs,e,⟨h1.len,h1.cap,fun hn=>?_⟩,h2,fun i e q hi=>?_⟩
 ·obtain⟨b',o,hA,hb,hc⟩:=h1.cells hn
  refine⟨b',o,hA,Nat.lt_of_lt_of_le hb hg.size,fun i x hx j v hv=>?_⟩;have hcell:=hc i x hx j v hv;refine(World.cell?_of_block (w:=w) (hg.block b' hb (fun e=>?_))).trans hcell;cases e;simp [World.cell?,hm]at hcell
 ·obtain⟨z0,z1,z2,hx,hr⟩:=h3 i e q hi
  exact⟨z0,z1,z2,hx,hR _ _ hr⟩
theorem Pol.grm{w w':World}{v:Value}{l:List Mon}{b:Nat}(h:Pol w v l)(hg:w.grownBy w' (some b)){es:Array MapEntry}{ck:Nat}(hm:w.heap[b]? =some (.map es ck)):Pol w' v l:=PBy.grm h (fun _ _ hr=>hr.grm hg hm) hg hm
def mulTo(q p:List Mon):Co:=p.foldl (fun c m=>addM c q m.1 m.2) zeroC
theorem Qqq(q p:List Mon)(m:Mon):mulTo q (p++[m])=addM (mulTo q p) q m.1 m.2:=by
 unfold mulTo;rw [List.foldl_append];rfl
theorem Qtu(q p:List Mon):mulTo q p=mulL p q:=rfl
theorem Qme{q:List Mon}(hq:VP q){L Lq:Nat}(hl:SzL q Lq)(p:List Mon)(hp:SzL p L):SzC (mulTo q p) (1+p.length*(Lq+L+1)):=by
 have key:∀(p:List Mon) (c:Co) (B:Nat),SzC c B->SzL p L->SzC (p.foldl (fun c m=>addM c q m.1 m.2) c) (B+p.length*(Lq+L+1)):=by
  intro p
  induction p with
  |nil=>intro c B h _;exact h.mono (by simp)
  |cons m p ih=>
   intro c B h hp;have h1:=Qo9 h (Qel hq) (e:=m.1) (hp m (by simp)) hl (show B+(Lq+L)+1<=B+(Lq+L+1)by omega);have h2:=ih _ _ h1 (fun x hx=>hp x (by simp [hx]));refine h2.mono ?_;rw [List.length_cons,Nat.add_mul];omega
 exact key p zeroC 1 (Qo8 1 (le_refl _)) hp
theorem Mul_p(v u:Value)(p q:List Mon)(L Lq:Nat)(w:World)(hT:Tab w)(h:PI w v p L)(h':PI w u q Lq)(hL:p.length*(Lq+L+1)<=900000)(hL2:Lq+L<=800000):Calls prog 153 #[v,u] w (RetPol w (listOf (mulC (co p) (co q)))):=by
 obtain⟨_,_,_,rfl⟩:=h.slice;obtain⟨_,_,_,rfl⟩:=h'.slice;have hmm:= @run_makeMap prog;have hvp:=h.vp;have hvq:=h'.vp;have hsp:=h.szl;have hsq:=h'.szl;have hlp:=Qc9 hvp;have hlq:=Qc9 hvq;have hC1:=Qki _ p L w hT h;have HC1:=hid hC1;clear hC1 h;go_enter func153,ntmps153;go_wp2_with fail
 refine HC1.out.mono ?_;rintro e1 w1 ⟨v1,rfl,hp1,hb1⟩;have hT1:=hT.below hb1;obtain⟨A1,c1,rfl⟩:=hp1.slice;have hC2:=Qki _ q Lq w1 hT1 (h'.below hb1);have HC2:=hid hC2;clear hC2 h';go_wp2_with fail
 refine HC2.out.mono ?_;rintro e2 w2 ⟨v2,rfl,hq2,hb2⟩;obtain⟨A2,c2,rfl⟩:=hq2.slice;have hb3:Below w2.heap.size w2 (w2.alloc (.map #[] 0)):=(Below.refl _ _).alloc (le_refl _) _;have hS3:=Sums.made w2;have hp3:=(hp1.below hb2).below hb3;have hq3:=hq2.below hb3;have hT3:=(hT1.below hb2).below hb3;have hb12:=bt hb1 hb2;have hB3:=bt hb12 hb3;have hsz:=hb12.size;obtain⟨es0,ck0,hm0⟩:=hS3.map;clear hb1 hb2 hp1 hq2 hT1 HC1 HC2 hb3;go_wp2_with fail
 generalize (w2.alloc (.map #[] 0))=W3 at*
 generalize w2.heap.size=mb at*
 go_loopw [15] (fun i wr=> ∃k n',k<=p.length/\i=.int .i64 (k:Int)/\n'<=k*q.length/\Sums wr mb n' (mulTo q (p.take k))/\W3.grownBy wr (some mb)) (fun i _=>(p.length-intOf i).toNat)
 case atStart=>exact⟨0,0,zero_le _,rfl,zero_le _,hS3,World.grownBy.refl _ _⟩
 case round=>
  obtain⟨k,n',hk,rfl,hn',hSk,hgk⟩:=hrel;rcases lt_or_ge k p.length with hkn|hkn
  ·obtain⟨m,hm⟩:∃m,p[k]? =some m:=⟨p[k],List.getElem?_eq_getElem hkn⟩
   obtain⟨bq,oq,y0,y1,y2,rfl,hbq,hat,hcoef⟩:=hp3.at hm;obtain⟨nb,Ay,ny,cy,By,my,ey,heq⟩:=hcoef.agg;simp only [Value.agg.injEq,Array.mk.injEq,List.cons.injEq,and_true]at heq;obtain⟨rfl,rfl,rfl⟩:=heq;have hmq:m∈p:=List.mem_of_getElem? hm;have hdm:=(hvp.1 m hmq).1;obtain⟨x0,x1,x2,x3,x4,x5⟩:=hat.grm hgk hm0 hbq;have r2:=hcoef.grm hgk hm0;have t1:=hT3.grm hgk hm0;obtain⟨hb6,d6⟩:=new6 wr (.int .i64 (m.1.1:Int)) (.int .i64 (m.1.2.1:Int)) (.int .i64 (m.1.2.2:Int)) (.bool nb) (.slice Ay ny cy) (.slice By my ey);have hS6:=hSk.below hb6;have hc6:=d6.c6;have hlt:(k:Int)<(p.length:Int):=(by omega);have hgd:=Qb0 hgk hb6;have hkq:k*q.length<=56*56:=Nat.mul_le_mul (by omega) hlq;have hbnd:1+k*(Lq+L+1)+(Lq+L)+1<=1000000:=by
    have h1:(k+1)*(Lq+L+1)<=p.length*(Lq+L+1):=Nat.mul_le_mul_right _ (by omega);rw [Nat.add_mul]at h1;omega
   have hszk:SzC (mulTo q (p.take k)) (1+k*(Lq+L+1)):=by
    have h1:=Qme hvq hsq (p.take k) (fun x hx=>hsp x (List.mem_of_mem_take hx))
    rwa [List.length_take,Nat.min_eq_left (by omega)]at h1
   have hadd:=Qtq mb n' _ q m.1 _ m.2 _ (1+k*(Lq+L+1)) L Lq _ (t1.below hb6) hS6 ((hq3.grm hgk hm0).below hb6) (Qel hvq) (fun x hx=>(hvq.1 x hx).1) (by omega) hdm ((r2.below hb6).inp (hsp m hmq) (by omega)) hszk hsq hbnd;have HADD:=hid hadd;have HK:=hid hkn;have HM:=hid hm;have HN:=hid hn';clear hadd hS6 hSk hkn hm hn' r2 t1 hat hcoef hszk hbnd;go_wp2_with fail
   clear hc6 x0 x1 x2 x3 x4 x5;refine HADD.out.mono ?_;rintro e6 w6 ⟨rfl,⟨n6,hn6,hS6⟩,hg6⟩;go_wp2_with fail
   go_roundw
   case rel=>
    refine⟨k+1,n6,by have:=HK.out;omega,congrArg (Value.int _) (by omega),by have:=HN.out;rw [Nat.add_mul,Nat.one_mul];omega,?_,Qdu hgd hg6⟩;rw [List.take_succ_eq_append_getElem HK.out,(List.getElem?_eq_some_iff.1 HM.out).2,Qqq];exact hS6
   case measure=>simp [intOf];have:=HK.out;omega
  ·obtain rfl:k=p.length:=by omega
   have hlt:¬(p.length:Int)<(p.length:Int):=(by omega);rw [List.take_length]at hSk;have hB5:Below w.heap.size w wr:=hB3.grown hgk hB3.size (fun j e=>by cases e;exact hsz);have hkq:p.length*q.length<=56*56:=Nat.mul_le_mul hlp hlq;have hL5:=Qib _ n' _ wr (hT3.grm hgk hm0) hSk (by omega) ((Qme hvq hsq p hsp).mono (by omega));have HL5:=hid hL5;clear hL5 hSk hp3 hS3 hm0 hT3 hB3 hgk hq3;go_wp2_with fail
   refine HL5.out.mono ?_;rintro e6 w6 ⟨v6,rfl,hp6,hb6⟩;go_wp2_with fail
   go_ret;refine⟨v6,rfl,?_,bt hB5 hb6⟩;rw [Qtu]at hp6;have e1:listOf (mulC (co p) (co q))=listOf (mulL p q):=Qd7 (fun e he=>(Qsa hvp hvq he).symm);rw [e1];exact hp6
end Go.Proofs.YthbhgelncdnmgaaGreatDoor
