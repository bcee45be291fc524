import Derived.Test.YthbhgelncdnmgaaGreatDoorY35
import Derived.Test.YthbhgelncdnmgaaGreatDoorY27
set_option linter.unusedVariables false
set_option linter.unusedSimpArgs false
set_option maxRecDepth 20000
set_option maxHeartbeats 4000000
namespace Go.Proofs.YthbhgelncdnmgaaGreatDoor
open Go.Proofs.Tryz
open Lib (hid)
open Nat (le_refl le_trans)
open Go.RowKit
abbrev M6(z0 z1 z2 z3 z4 z5:Value):Obj:=.cells #[z0,z1,z2,z3,z4,z5] 71
theorem new6(w:World)(z0 z1 z2 z3 z4 z5:Value):Below w.heap.size w (w.alloc (M6 z0 z1 z2 z3 z4 z5))/\Cs (w.alloc (M6 z0 z1 z2 z3 z4 z5)) w.heap.size [z0,z1,z2,z3,z4,z5] 71:=
 ⟨(Below.refl _ _).alloc (le_refl _) _,Cs.new w [z0,z1,z2,z3,z4,z5] _⟩
theorem new3(w:World)(a b c:Int):Below w.heap.size w (w.alloc (E3 a b c))/\Cs (w.alloc (E3 a b c)) w.heap.size (e3 a b c) 147:=
 ⟨(Below.refl _ _).alloc (le_refl _) _,Cs.new w (e3 a b c) _⟩
theorem Cs.c6{w:World}{g:Nat}{z0 z1 z2 z3 z4 z5:Value}{t:TypeId}(h:Cs w g [z0,z1,z2,z3,z4,z5] t):
 w.cell? ⟨g,0,none⟩=some z0/\w.cell? ⟨g,1,none⟩=some z1/\w.cell? ⟨g,2,none⟩=some z2/\w.cell? ⟨g,3,none⟩=some z3/\w.cell? ⟨g,4,none⟩=some z4/\w.cell? ⟨g,5,none⟩=some z5:=
 ⟨h.cell rfl,h.cell rfl,h.cell rfl,h.cell rfl,h.cell rfl,h.cell rfl⟩
theorem Cs.c3{w:World}{g:Nat}{z0 z1 z2:Value}{t:TypeId}(h:Cs w g [z0,z1,z2] t):w.cell? ⟨g,0,none⟩=some z0/\w.cell? ⟨g,1,none⟩=some z1/\w.cell? ⟨g,2,none⟩=some z2:=⟨h.cell rfl,h.cell rfl,h.cell rfl⟩
theorem At6.grm{w w':World}{b b' o:Nat}{z0 z1 z2 z3 z4 z5:Value}(h:At6 w b' o z0 z1 z2 z3 z4 z5)(hg:w.grownBy w' (some b)){es:Array MapEntry}{ck:Nat}(hm:w.heap[b]? =some (.map es ck))(hlt:b'<w.heap.size):At6 w' b' o z0 z1 z2 z3 z4 z5:=by
 refine h.keep (hg.block b' hlt (fun e=>?_));cases e;have:=h.1;simp [World.cell?,hm]at this
theorem Tab.grm{w w':World}{b:Nat}(h:Tab w)(hg:w.grownBy w' (some b)){es:Array MapEntry}{ck:Nat}(hm:w.heap[b]? =some (.map es ck)):Tab w':=by
 have key:∀ {a:Addr} {v:Value},w.cell? a=some v->w'.cell? a=some v:=fun {a v} ha=>by
  refine(World.cell?_of_block (w:=w) (hg.block a.block (block_lt_of_cell ha) (fun e=>?_))).trans ha;cases e;simp [World.cell?,hm]at ha
 exact⟨fun j hj=>key (h.t64 j hj),fun j hj=>key (h.t32 j hj)⟩
theorem Qdu{a b c:World}{k:Nat}(h:a.grownBy b (some k))(h':b.grownBy c (some k)):a.grownBy c (some k):=
 ⟨h'.os.trans h.os,h'.tape.trans h.tape,h'.output.trans h.output,le_trans h.size h'.size,fun i hi hne=>(h'.block i (Nat.lt_of_lt_of_le hi h.size) hne).trans (h.block i hi hne)⟩
theorem Qis{a b:World}{row:Option Nat}(h:Below a.heap.size a b):a.grownBy b row:=⟨h.os,h.tape,h.output,h.size,fun i hi _=>h.block i hi⟩
theorem Qb0{a b c:World}{row:Option Nat}(h:a.grownBy b row)(h':Below b.heap.size b c):a.grownBy c row:=⟨h'.os.trans h.os,h'.tape.trans h.tape,h'.output.trans h.output,le_trans h.size h'.size,fun i hi hne=>(h'.block i (Nat.lt_of_lt_of_le hi h.size)).trans (h.block i hi hne)⟩
theorem Qtp(c:Co)(q:List Mon)(e:Ex):addM c q e 0=c:=by
 funext f
 rw [Qj6,Qbu (fun m _=>by split<;>simp)];grind
theorem Ql8(c:Co)(q:List Mon)(m:Mon)(e:Ex)(x:Rat):addM c (q++[m]) e x=addAt (addM c q e x) (eadd m.1 e) (m.2*x):=by
 unfold addM;rw [List.foldl_append];rfl
theorem Qji{q:List Mon}(hq:(q.map (·.1)).Nodup){k:Nat}{m:Mon}(hk:q[k]? =some m)(c:Co)(e:Ex)(x:Rat):addM c (q.take k) e x (eadd m.1 e)=c (eadd m.1 e):=by
 rw [Qj6,Qbu (fun n hn=>if_neg (fun h=>?_))]
 ·grind
 ·have hne:n.1=m.1:=by
   unfold eadd at h;simp only [Prod.mk.injEq]at h;exact Prod.ext (by omega) (Prod.ext (by omega) (by omega))
  obtain⟨j,hj,hjn⟩:=List.getElem_of_mem hn;have hjk:j<k:=by have:=hj;rw [List.length_take]at this;omega
  have hkl:k<q.length:=(List.getElem?_eq_some_iff.1 hk).1;rw [List.getElem_take]at hjn;have:=List.pairwise_iff_getElem.1 hq j k (by rw [List.length_map];omega) (by rw [List.length_map];exact hkl) hjk;rw [List.getElem_map,List.getElem_map,hjn,(List.getElem?_eq_some_iff.1 hk).2]at this;exact this hne
def RetSumsLe(w0:World)(b n:Nat)(c:Co)(e:Ending)(w':World):Prop:=e=.returned (.tuple #[])/\(∃n',n'<=n/\Sums w' b n' c)/\w0.grownBy w' (some b)
theorem Qtq(b n:Nat)(p:Value)(q:List Mon)(e:Ex)(v:Value)(x:Rat)(c:Co)(B L Lq:Nat)(w:World)(hT:Tab w)(hS:Sums w b n c)(hp:Pol w p q)(hq:(q.map (·.1)).Nodup)(hqd:∀m∈q,deg m.1<=5)(hn:n+q.length<=1000000)(he:deg e<=5)
 (hv:Inp w v x L)(sc:SzC c B)(sq:SzL q Lq)(hM:B+(Lq+L)+1<=1000000):
 Calls prog 188 #[.map (some b),p,exV e,v] w (RetSumsLe w b (n+q.length) (addM c q e x)):=by
 obtain⟨z0,Z,zn,zc,Z',zm,ze,rfl⟩:=hv.agg;obtain⟨A,cap,rfl⟩:=hp.slice;have sx:=hv.sz;have c1:=(Cs.new w (e3 e.1 e.2.1 e.2.2) 147).alloc (R1 (.bool z0) (.slice Z zn zc) (.slice Z' zm ze));have hbA:Below w.heap.size w ((w.alloc (E3 e.1 e.2.1 e.2.2)).alloc (R1 (.bool z0) (.slice Z zn zc) (.slice Z' zm ze))):=((Below.refl _ _).alloc (le_refl _) _).alloc (by simp) _;have hrx:Rc ((w.alloc (E3 e.1 e.2.1 e.2.2)).alloc (R1 (.bool z0) (.slice Z zn zc) (.slice Z' zm ze))) (w.heap.size+1) (.bool z0) (.slice Z zn zc) (.slice Z' zm ze):=by
  have:=Rc.new (w.alloc (E3 e.1 e.2.1 e.2.2)) (.bool z0) (.slice Z zn zc) (.slice Z' zm ze)
  rwa [World.size_alloc]at this
 have hblt:=hS.lt;replace hS:=hS.below hbA;replace hp:=hp.below hbA;have hI:=hv.below hbA;replace hT:=hT.below hbA;clear hv;by_cases hx0:x=0
 ·subst hx0
  have hsx:=hrx.cells;go_enter func188,ntmps188;go_wp2_with fail
  generalize (w.alloc (E3 e.1 e.2.1 e.2.2)).alloc (R1 (.bool z0) (.slice Z zn zc) (.slice Z' zm ze))=W at*
  go_wp2_with fail
  refine(Qg6 _ 0 L _ hT hI).mono ?_;rintro e1 w1 ⟨rfl,hb1⟩;rw [show(0:Rat).num.sign=0 from rfl];go_wp2_with fail
  refine bodyPost_ret (results_none rfl _ _ _) rfl ?_;exact⟨rfl,⟨n,by omega,by rw [Qtp];exact hS.below hb1⟩,Qis (bt hbA hb1)⟩
 ·have hr:=hI.ratq hx0
  have hsg:(x.num.sign==0)=false:=by
   have:x.num≠0:=fun h=>hx0 (Rat.num_eq_zero.1 h)
   simp [Int.sign_eq_zero_iff_zero,this]
  have hsx:=hrx.cells;have HSG:=hid hsg;go_enter func188,ntmps188;go_wp2_with fail
  generalize (w.alloc (E3 e.1 e.2.1 e.2.2)).alloc (R1 (.bool z0) (.slice Z zn zc) (.slice Z' zm ze))=W at*
  go_wp2_with fail
  refine(Qg6 _ x L _ hT hI).mono ?_;rintro e1 w1 ⟨rfl,hb1⟩;generalize x.num.sign=sg at*
  replace hbA:=bt hbA hb1;replace hS:=hS.below hb1;replace hp:=hp.below hb1;replace hT:=hT.below hb1;replace hr:=hr.below hb1;replace c1:=c1.below hb1 c1.lt;replace hrx:=hrx.below hb1 hrx.lt;clear hb1 hI hsx;go_wp2_with fail
  obtain⟨es0,ck0,hm0⟩:=hS.map;have hN:(q.length:Int)<=1000000:=by omega
  go_loopw [16] (fun i wr=> ∃k n',k<=q.length/\i=.int .i64 (k:Int)/\n'<=n+k/\Sums wr b n' (addM c (q.take k) e x)/\w1.grownBy wr (some b)) (fun i _=>(q.length-intOf i).toNat)
  case atStart=>exact⟨0,n,Nat.zero_le _,rfl,le_refl _,by rw [List.take_zero];exact hS,World.grownBy.refl _ _⟩
  case round=>
   obtain⟨k,n',hk,rfl,hn',hSk,hgk⟩:=hrel;rcases Nat.lt_or_ge k q.length with hkn|hkn
   ·obtain⟨m,hm⟩:∃m,q[k]? =some m:=⟨q[k],List.getElem?_eq_getElem hkn⟩
    obtain⟨bq,oq,y0,y1,y2,rfl,hbq,hat,hcoef⟩:=hp.at hm;obtain⟨nb,Ay,ny,cy,By,my,ey,heq⟩:=hcoef.agg;simp only [Value.agg.injEq,Array.mk.injEq,List.cons.injEq,and_true]at heq;obtain⟨rfl,rfl,rfl⟩:=heq;have hmq:m∈q:=List.mem_of_getElem? hm;have hdm:=hqd m hmq;have n1:some w.heap.size≠some b:=fun h=>by cases h;omega
    have n2:some (w.heap.size+1)≠some b:=fun h=>by cases h;omega
    have a1:=hat.grm hgk hm0 hbq;have k1:=c1.grw hgk n1;have k2:=hrx.grw hgk n2;have r1:=hr.grm hgk hm0;have r2:=hcoef.grm hgk hm0;have t1:=hT.grm hgk hm0;obtain⟨hb6,d6⟩:=new6 wr (.int .i64 (m.1.1:Int)) (.int .i64 (m.1.2.1:Int)) (.int .i64 (m.1.2.2:Int)) (.bool nb) (.slice Ay ny cy) (.slice By my ey);obtain⟨x0,x1,x2,x3,x4,x5⟩:=a1;replace k1:=k1.below hb6 k1.lt;replace k2:=k2.below hb6 k2.lt;replace r1:=r1.below hb6;replace r2:=r2.below hb6;replace t1:=t1.below hb6;replace hSk:=hSk.below hb6;obtain⟨f,hf⟩:∃f,eadd m.1 e=f:=⟨_,rfl⟩;have hf0:(m.1.1:Int)+(e.1:Int)=(f.1:Int):=(by rw [<-hf];unfold eadd;push_cast;rfl);have hf1:(m.1.2.1:Int)+(e.2.1:Int)=(f.2.1:Int):=(by rw [<-hf];unfold eadd;push_cast;rfl);have hf2:(m.1.2.2:Int)+(e.2.2:Int)=(f.2.2:Int):=(by rw [<-hf];unfold eadd;push_cast;rfl);have HF:=hid hf;have HF0:=hid hf0;have HF1:=hid hf1;have HF2:=hid hf2;have HDM:=hid hdm;have HDE:=hid he;have HK:=hid hkn;have HN:=hid hn';have hlt:(k:Int)<(q.length:Int):=(by omega);have hsz:=hb6.size;have hgd:w1.grownBy (wr.alloc (M6 (.int .i64 (m.1.1:Int)) (.int .i64 (m.1.2.1:Int)) (.int .i64 (m.1.2.2:Int)) (.bool nb) (.slice Ay ny cy) (.slice By my ey))) (some b):=Qb0 hgk hb6;have v':=k1.c3;clear hf hf0 hf1 hf2 hdm hkn hn' hat hcoef;go_wp2_with fail
    generalize (wr.alloc (M6 (.int .i64 (m.1.1:Int)) (.int .i64 (m.1.2.1:Int)) (.int .i64 (m.1.2.2:Int)) (.bool nb) (.slice Ay ny cy) (.slice By my ey)))=W6 at*
    clear x0 x1 x2 x3 x4 x5 v';have hj1:=HDM.out;have hj2:=HDE.out;unfold deg at hj1 hj2;refine(Qvz _ _ _ _ _ _ _ (by omega) (by omega) (by omega) (by omega) (by omega) (by omega)).mono ?_;clear hj1 hj2;rintro e2 w2 ⟨rfl,hb2⟩;rw [HF0.out,HF1.out,HF2.out];obtain⟨hb3,d3⟩:=new3 w2 (f.1:Int) (f.2.1:Int) (f.2.2:Int);have hb23:=bt hb2 hb3;replace k1:=k1.below hb23 k1.lt;replace k2:=k2.below hb23 k2.lt;replace d6:=d6.below hb23 d6.lt;replace r1:=r1.below hb23;replace r2:=r2.below hb23;replace t1:=t1.below hb23;replace hSk:=hSk.below hb23;replace hgd:=Qb0 hgd hb23;have hsz2:=le_trans hsz hb2.size;clear hb2 hb3 hb23;have v':=d3.c3;go_wp2_with fail
    generalize (w2.alloc (E3 (f.1:Int) (f.2.1:Int) (f.2.2:Int)))=W3 at*
    by_cases hfk:deg f<=5
    ·have hkn:Hid (knownI ((f.1:Int),(f.2.1:Int),(f.2.2:Int))=true):=by show _=_;rw [Qgl];exact decide_eq_true hfk
     have HFK:=hid hfk;clear hfk;refine(Qh5 _ _ _ _ _ hkn).mono ?_;rintro e4 w4 ⟨rfl,hb4⟩;have hgs:w.heap.size<=wr.heap.size:=le_trans hbA.size hgk.size;have n3:some w2.heap.size≠some b:=fun h=>by cases h;omega
     have n4:some wr.heap.size≠some b:=fun h=>by cases h;omega
     have hb4d:=hb4.drew;replace k2:=k2.below hb4d k2.lt;replace d3:=d3.below hb4d d3.lt;replace d6:=d6.below hb4d d6.lt;replace r1:=r1.below hb4d;replace r2:=r2.below hb4d;replace t1:=t1.below hb4d;replace hSk:=hSk.below hb4d;replace hgd:=Qb0 hgd hb4d;clear hb4 hb4d v' k1;have hq2:w2.heap.size<w4.drew.heap.size:=d3.lt;have hq6:wr.heap.size<w4.drew.heap.size:=d6.lt;have hq1:w.heap.size+1<w4.drew.heap.size:=k2.lt;have SM:=(sq m hmq).mono (show Lq<=1000000 by omega);have SX:=sx.mono (show L<=1000000 by omega);have SP:Sz (m.2*x) 1000000:=Qxf (sq m hmq) sx (by omega);have SC:Sz (addM c (q.take k) e x f) 1000000:=by
      rw [<-HF.out,Qji hq hm,HF.out];exact(sc f HFK.out).mono (by omega)
     have HNn:Hid (n'<=1000000):=(by show _<=_;have:=HN.out;have:=HK.out;omega);go_wp2_with fail
     have s3:=d3.c3;have s6:=d6.c6.2.2.2;have sx3:=k2.cells
     go_region_held3 (fun w'=>(w'.cell? ⟨w2.heap.size,0,none⟩=some (.int .i64 (f.1:Int))/\w'.cell? ⟨w2.heap.size,1,none⟩=some (.int .i64 (f.2.1:Int))/\w'.cell? ⟨w2.heap.size,2,none⟩=some (.int .i64 (f.2.2:Int)))/\(w'.cell? ⟨wr.heap.size,3,none⟩=some (.bool nb)/\w'.cell? ⟨wr.heap.size,4,none⟩=some (.slice Ay ny cy)/\w'.cell? ⟨wr.heap.size,5,none⟩=some (.slice By my ey))/\(w'.cell? ⟨w.heap.size+1,0,none⟩=some (.bool z0)/\w'.cell? ⟨w.heap.size+1,1,none⟩=some (.slice Z zn zc)/\w'.cell? ⟨w.heap.size+1,2,none⟩=some (.slice Z' zm ze)))
      (first|with_reducible exact⟨s3,s6,sx3⟩|with_reducible exact⟨s35,s65,sx35⟩|with_reducible exact⟨s36,s66,sx36⟩|fail)
      (first
       |(have _g:=hb5;go_at_call 185;refine(Qg9 b n' f _ (m.2*x) _ _ (t1.below hb5) (hSk.below hb5) HNn.out HFK.out (h5.inp SP (by omega)) SC).mono ?_;rintro e6 w6 ⟨rfl,hS6,hg6⟩;have s36:=((d3.below hb5 hq2).grw hg6 n3).c3;have s66:=((d6.below hb5 hq6).grw hg6 n4).c6.2.2.2;have sx36:=((k2.below hb5 hq1).grw hg6 n2).cells)
       |(go_at_call 177;refine(Qse _ _ m.2 x _ 1000000 _ t1 (r2.inp SM (by omega)) (r1.inp SX (by omega)) SM SX rfl).mono ?_;rintro e5 w5 ⟨v5,rfl,h5,hb5⟩;have s35:=(d3.below hb5 hq2).c3;have s65:=(d6.below hb5 hq6).c6.2.2.2;have sx35:=(k2.below hb5 hq1).cells)
       |fail)
     go_wp2_with fail
     go_roundw
     case rel=>
      refine⟨k+1,n'+1,by have:=HK.out;omega,congrArg (Value.int _) (by omega),by have:=HN.out;omega,?_,Qdu (Qb0 hgd hb5) hg6⟩;rw [List.take_succ_eq_append_getElem HK.out,(List.getElem?_eq_some_iff.1 hm).2,Ql8,HF.out];exact hS6
     case measure=>simp [intOf];have:=HK.out;omega
    ·have hkn:Hid (knownI ((f.1:Int),(f.2.1:Int),(f.2.2:Int))=false):=by show _=_;rw [Qgl];exact decide_eq_false hfk
     refine(Qh5 _ _ _ _ _ hkn).mono ?_;rintro e4 w4 ⟨rfl,hb4⟩;go_wp2_with fail
     go_roundw
     case rel=>
      refine⟨k+1,n',by have:=HK.out;omega,congrArg (Value.int _) (by omega),by have:=HN.out;omega,?_,Qb0 hgd hb4⟩;refine(hSk.below hb4).congr (fun g hg=>?_);rw [List.take_succ_eq_append_getElem HK.out,(List.getElem?_eq_some_iff.1 hm).2,Ql8];unfold addAt;rw [HF.out,if_neg (fun(h:g=f)=>hfk (h▸hg)),Rat.add_zero]
     case measure=>simp [intOf];have:=HK.out;omega
   ·obtain rfl:k=q.length:=by omega
    have hlt:¬(q.length:Int)<(q.length:Int):=(by omega);go_wp2_with fail
    go_end0
    exact⟨rfl,⟨n',hn',by rw [List.take_length]at hSk;exact hSk⟩,Qfh hbA hgk⟩
end Go.Proofs.YthbhgelncdnmgaaGreatDoor
