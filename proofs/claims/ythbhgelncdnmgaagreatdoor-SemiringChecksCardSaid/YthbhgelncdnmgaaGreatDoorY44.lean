import Derived.Test.YthbhgelncdnmgaaGreatDoorY21
import Derived.Test.YthbhgelncdnmgaaGreatDoorY43
import Derived.Deep.Slices
set_option linter.unusedVariables false
set_option linter.unusedSimpArgs false
set_option maxRecDepth 100000
namespace Go.Proofs.YthbhgelncdnmgaaGreatDoor
open Go.Proofs.Tryz
open Go Go.ChangeShapes Go.WideShapes Go.RowKit
def R64(x:Int):Prop:= -9223372036854775808<=x/\x<=9223372036854775807
def E64(e:Int × Int × Int):Prop:=R64 e.1/\R64 e.2.1/\R64 e.2.2
section
variable {H:Type} {enc:TypeId × Value->H}
theorem Quc{x:Int}(h:(Lit.int .i64 x).wf=true):R64 x:=by
 simp only [Lit.wf,Bool.and_eq_true,decide_eq_true_eq]at h;have e1:IntKind.i64.min= -9223372036854775808:=rfl;have e2:IntKind.i64.max=9223372036854775807:=rfl;unfold R64;omega
theorem list6{α:Type}{l:List α}(h:l.length=6):∃a b c d e f,l=[a,b,c,d,e,f]:=by
 match l,h with
 |[a,b,c,d,e,f],_=>exact⟨a,b,c,d,e,f,rfl⟩
theorem list3{α:Type}{l:List α}(h:l.length=3):∃a b c,l=[a,b,c]:=by
 match l,h with
 |[a,b,c],_=>exact⟨a,b,c,rfl⟩
theorem list8{α:Type}{l:List α}(h:l.length=8):∃a b c d e f g i,l=[a,b,c,d,e,f,g,i]:=by
 match l,h with
 |[a,b,c,d,e,f,g,i],_=>exact⟨a,b,c,d,e,f,g,i,rfl⟩
theorem Qmt{W:World}{k:Nat}{cs:List Value}{y:DataW H × List MemPlace}(h:DataW.trod enc prog W 0 (fun _=>true) true k 27 cs=some y):
 ∃z0 z1 z2 nb ln ld,cs=[z0,z1,z2]/\Fld W (.agg #[z0,z1,z2]) nb ln ld:=by
 obtain⟨xs,n,rfl,_,hlen,hxs,hf⟩:=DataW.trod_struct underlying27 h;have c3:prog.cellsOf 27=3:=by kernel_rfl
 rw [c3]at hlen;obtain⟨z0,z1,z2,rfl⟩:=list3 hlen;have cb:prog.cellsOf 4=1:=by kernel_rfl
 have cu:prog.cellsOf 25=1:=by kernel_rfl
 obtain⟨y0,y1,y2,rfl⟩:=list3 (hxs.trans rfl);have g0:DataW.trod enc prog W 0 (fun _=>true) true n 4 (([z0,z1,z2].drop 0).take (prog.cellsOf 4))=some y0:=hf 0 _ rfl;have g1:DataW.trod enc prog W 0 (fun _=>true) true n 25 (([z0,z1,z2].drop 1).take (prog.cellsOf 25))=some y1:=hf 1 _ rfl;have g2:DataW.trod enc prog W 0 (fun _=>true) true n 25 (([z0,z1,z2].drop 2).take (prog.cellsOf 25))=some y2:=hf 2 _ rfl;rw [cb]at g0;rw [cu]at g1 g2;obtain⟨b,hb,_⟩:=DataW.trod_bool underlying4 g0;obtain⟨A,m,c,l,hA1,hA⟩:=Qs8 (v:=z1) g1;obtain⟨A',m',c',l',hA1',hA'⟩:=Qs8 (v:=z2) g2;have hb':z0=.bool b:=by simpa using hb
 subst hb' hA1 hA1';exact⟨_,_,_,b,l,l',rfl,⟨A,m,c,A',m',c',rfl,hA,hA'⟩⟩
theorem Qq0{W:World}{k:Nat}{cs:List Value}{y:DataW H × List MemPlace}(h:DataW.trod enc prog W 0 (fun _=>true) true k 71 cs=some y):
 ∃(m:FldM) (z0 z1 z2:Value),cs=mcells m.1 z0 z1 z2/\Fld W (.agg #[z0,z1,z2]) m.2.1 m.2.2.1 m.2.2.2/\E64 m.1:=by
 obtain⟨xs,n,rfl,_,hlen,hxs,hf⟩:=DataW.trod_struct underlying71 h;have c6:prog.cellsOf 71=6:=by kernel_rfl
 rw [c6]at hlen;obtain⟨w0,w1,w2,w3,w4,w5,rfl⟩:=list6 hlen;have ce:prog.cellsOf 69=3:=by kernel_rfl
 have cr:prog.cellsOf 27=3:=by kernel_rfl
 have ci:prog.cellsOf 3=1:=by kernel_rfl
 obtain⟨y0,y1,rfl⟩:∃y0 y1,xs=[y0,y1]:=by
  have hx2:xs.length=2:=hxs
  match xs,hx2 with
  |[a,b],_=>exact⟨a,b,rfl⟩
 have g0:DataW.trod enc prog W 0 (fun _=>true) true n 69 (([w0,w1,w2,w3,w4,w5].drop 0).take (prog.cellsOf 69))=some y0:=hf 0 _ rfl;have g1:DataW.trod enc prog W 0 (fun _=>true) true n 27 (([w0,w1,w2,w3,w4,w5].drop 3).take (prog.cellsOf 27))=some y1:=hf 1 _ rfl;rw [ce]at g0;rw [cr]at g1;obtain⟨ys,m,_,_,_,hys,ha⟩:=DataW.trod_array underlying69 g0;obtain⟨x0,x1,x2,rfl⟩:=list3 hys;have a0:=ha 0 (by decide);have a1:=ha 1 (by decide);have a2:=ha 2 (by decide);simp only [ci]at a0 a1 a2;obtain⟨i0,e0,_,hw0⟩:=DataW.trod_int underlying3 a0;obtain⟨i1,e1,_,hw1⟩:=DataW.trod_int underlying3 a1;obtain⟨i2,e2,_,hw2⟩:=DataW.trod_int underlying3 a2;obtain⟨z0,z1,z2,nb,ln,ld,hz,hF⟩:=Qmt g1;have e0':w0=.int .i64 i0:=by simpa using e0
 have e1':w1=.int .i64 i1:=by simpa using e1
 have e2':w2=.int .i64 i2:=by simpa using e2
 have hz':w3=z0/\w4=z1/\w5=z2:=by simpa using hz
 obtain⟨rfl,rfl,rfl⟩:=hz';subst e0' e1' e2';exact⟨((i0,i1,i2),nb,ln,ld),_,_,_,rfl,hF,Quc hw0,Quc hw1,Quc hw2⟩
theorem Qn2{W:World}{k0:Nat}{v:Value}{y:DataW H × List MemPlace}(hf:DataW.trod enc prog W 0 (fun _=>true) true k0 29 [v]=some y):
 ∃A n c l,v=.slice A n c/\PRaw W A n c l:=by
 rcases Go.Deep.open_slice underlying29 hf with⟨hcs,_⟩|⟨a,n,c,m,k,D,Pl,hcs,_,hl,hm,hmm,_,hx⟩
 ·obtain rfl:v=.slice none 0 0:=by simpa using hcs
  exact⟨none,0,0,[],rfl,PRaw.nil _ _ _⟩
 ·obtain rfl:v=.slice (some a) n c:=by simpa using hcs
  simp only [if_true]at hmm;subst hmm;have c6:prog.cellsOf 71=6:=by kernel_rfl
  rw [c6]at hx;have each:∀i,i<m->∃q:FldM × Value × Value × Value,(∀j v,(mcells q.1.1 q.2.1 q.2.2.1 q.2.2.2)[j]? =some v->W.cell? (a.add (i*6+j))=some v)/\Fld W (.agg #[q.2.1,q.2.2.1,q.2.2.2]) q.1.2.1 q.1.2.2.1 q.1.2.2.2/\E64 q.1.1:=by
   intro i hi;obtain⟨cs',h1,h2⟩:=hx i hi;obtain⟨_,hlen,hcell⟩:=World.cells?_some h1;obtain⟨mm,z0,z1,z2,rfl,hF,hE⟩:=Qq0 h2;refine⟨(mm,z0,z1,z2),fun j v hj=>?_,hF,hE⟩;have hj6:j<6:=by
    have:=(List.getElem?_eq_some_iff.1 hj).1
    simpa using this
   have:=hcell j hj6;rw [Go.Deep.add_add]at this;rw [this];exact hj
  obtain⟨q,hq⟩:=Go.Deep.choose_lt each;refine⟨some a,n,m,(List.range n).map (fun i=>(q i).1),rfl,⟨(List.range n).map (fun i=>mcells (q i).1.1 (q i).2.1 (q i).2.2.1 (q i).2.2.2),⟨by simp,hl,fun hn=>?_⟩,by simp,fun i x hx=>?_⟩⟩
  ·obtain⟨b,off,spot⟩:=a
   have h0:=(hq 0 (by omega)).1 0 _ rfl;have hspot:spot=none:=(by simpa [Addr.add] using World.cell?_spot h0);subst hspot;refine⟨b,off,rfl,World.block_lt_of_cell? _ _ (by rw [add_plain]at h0;exact h0),fun i x hx j v hj=>?_⟩;rw [List.getElem?_map]at hx;obtain⟨i',hi',rfl⟩:=Option.map_eq_some_iff.1 hx;have hlt:i<n:=by
    have:=(List.getElem?_eq_some_iff.1 hi').1
    simpa using this
   rw [List.getElem?_range hlt]at hi';obtain rfl:=Option.some.inj hi';have:=(hq i (by omega)).1 j v hj;rw [add_plain]at this;rw [Nat.add_assoc];exact this
  ·rw [List.getElem?_map]at hx
   obtain⟨i',hi',rfl⟩:=Option.map_eq_some_iff.1 hx;have hlt:i<n:=by
    have:=(List.getElem?_eq_some_iff.1 hi').1
    simpa using this
   rw [List.getElem?_range hlt]at hi';obtain rfl:=Option.some.inj hi';refine⟨_,_,_,?_,(hq i (by omega)).2.1⟩;rw [List.getElem?_map,List.getElem?_range hlt];rfl
theorem u64_wf{x:Int}(h:(Lit.int .u64 x).wf=true):0<=x/\x<=18446744073709551615:=by
 simp only [Lit.wf,Bool.and_eq_true,decide_eq_true_eq]at h;have e1:IntKind.u64.min=0:=rfl;have e2:IntKind.u64.max=18446744073709551615:=rfl;omega
theorem Qwq{d e:DataW H}{l r:List (DataW H)}(h:e∈l):SizeOf.sizeOf e<SizeOf.sizeOf (DataW.slice l r):=by
 have:=List.sizeOf_lt_of_mem h;simp only [DataW.slice.sizeOf_spec];omega
theorem Qud{e:DataW H}{l:List (DataW H)}(h:e∈l):SizeOf.sizeOf e<SizeOf.sizeOf (DataW.agg l):=by
 have:=List.sizeOf_lt_of_mem h;simp only [DataW.agg.sizeOf_spec];omega
theorem Qmu{W:World}:∀(N k0:Nat) (cs:List Value) (d:DataW H) (p:List MemPlace),SizeOf.sizeOf d<=N->DataW.trod enc prog W 0 (fun _=>true) true k0 32 cs=some (d,p)->∃e,WRd W cs e/\bits e:=by
 intro N
 induction N with
 |zero=>intro k0 cs d p hN h;cases d<;>simp at hN
 |succ N IH=>
 intro k0 cs d p hN h;obtain⟨xs,n,rfl,hd,hlen,hxs,hf⟩:=DataW.trod_struct underlying32 h;obtain⟨rfl,rfl⟩:=Prod.mk.inj hd;have c8:prog.cellsOf 32=8:=by kernel_rfl
 rw [c8]at hlen;obtain⟨w0,w1,w2,w3,w4,w5,w6,w7,rfl⟩:=list8 hlen;have cr:prog.cellsOf 27=3:=by kernel_rfl
 have ci:prog.cellsOf 3=1:=by kernel_rfl
 have cb:prog.cellsOf 4=1:=by kernel_rfl
 have cu:prog.cellsOf 28=1:=by kernel_rfl
 have cm:prog.cellsOf 29=1:=by kernel_rfl
 have cw:prog.cellsOf 30=1:=by kernel_rfl
 obtain⟨y0,y1,y2,y3,y4,y5,rfl⟩:=list6 (hxs.trans rfl);have g0:DataW.trod enc prog W 0 (fun _=>true) true n 27 (([w0,w1,w2,w3,w4,w5,w6,w7].drop 0).take (prog.cellsOf 27))=some y0:=hf 0 _ rfl;have g1:DataW.trod enc prog W 0 (fun _=>true) true n 3 (([w0,w1,w2,w3,w4,w5,w6,w7].drop 3).take (prog.cellsOf 3))=some y1:=hf 1 _ rfl;have g2:DataW.trod enc prog W 0 (fun _=>true) true n 4 (([w0,w1,w2,w3,w4,w5,w6,w7].drop 4).take (prog.cellsOf 4))=some y2:=hf 2 _ rfl;have g3:DataW.trod enc prog W 0 (fun _=>true) true n 28 (([w0,w1,w2,w3,w4,w5,w6,w7].drop 5).take (prog.cellsOf 28))=some y3:=hf 3 _ rfl;have g4:DataW.trod enc prog W 0 (fun _=>true) true n 29 (([w0,w1,w2,w3,w4,w5,w6,w7].drop 6).take (prog.cellsOf 29))=some y4:=hf 4 _ rfl;have g5:DataW.trod enc prog W 0 (fun _=>true) true n 30 (([w0,w1,w2,w3,w4,w5,w6,w7].drop 7).take (prog.cellsOf 30))=some y5:=hf 5 _ rfl;rw [cr]at g0;rw [ci]at g1;rw [cb]at g2;rw [cu]at g3;rw [cm]at g4;rw [cw]at g5;obtain⟨z0,z1,z2,nb,ln,ld,hz,hF⟩:=Qmt g0;obtain⟨ic,e1,_,hw1⟩:=DataW.trod_int underlying3 g1;obtain⟨b,e2,_⟩:=DataW.trod_bool underlying4 g2;obtain⟨iu,e3,_,hw3⟩:=DataW.trod_int underlying28 g3;obtain⟨Ap,np,cp,poly,e4,hP⟩:=Qn2 (v:=w6) g4;have hz':w0=z0/\w1=z1/\w2=z2:=by simpa using hz
 obtain⟨rfl,rfl,rfl⟩:=hz';obtain rfl:w3=.int .i64 ic:=by simpa using e1
 obtain rfl:w4=.bool b:=by simpa using e2
 obtain rfl:w5=.int .u64 iu:=by simpa using e3
 subst e4;have hy5:SizeOf.sizeOf y5.1<SizeOf.sizeOf (DataW.agg ([y0,y1,y2,y3,y4,y5].map (·.1))):=Qud (by simp);have hs:∃Aw nw cw parts,w7=.slice Aw nw cw/\WPs W Aw nw cw parts/\∀e∈parts,bits e:=by
  have g5':DataW.trod enc prog W 0 (fun _=>true) true n 30 [w7]=some y5:=g5;rcases Go.Deep.open_slice underlying30 g5' with⟨hcs,_⟩|⟨a,nw,cw,m,k,D,Pl,hcs,_,hl,hm,hmm,hy,hx⟩
  ·obtain rfl:w7=.slice none 0 0:=by simpa using hcs
   exact⟨none,0,0,[],rfl,⟨[],RdK.nil _ _ _ _,rfl,fun _=>[],fun j d hj=>by simp at hj,fun j d hj=>by simp at hj⟩,fun e he=>by cases he⟩
  ·obtain rfl:w7=.slice (some a) nw cw:=by simpa using hcs
   simp only [if_true]at hmm;subst hmm;rw [c8]at hx;have each:∀i,i<nw->∃q:WD × List Value,(∀j v,q.2[j]? =some v->W.cell? (a.add (i*8+j))=some v)/\WRd W q.2 q.1/\bits q.1/\q.2.length=8:=by
    intro i hi;obtain⟨cs',h1,h2⟩:=hx i (by omega);obtain⟨_,hlen2,hcell⟩:=World.cells?_some h1;have hD:SizeOf.sizeOf (D i)<SizeOf.sizeOf y5.1:=by
     rw [hy];exact Qwq (d:=D i) (List.mem_map.2 ⟨i,List.mem_range.2 hi,rfl⟩)
    obtain⟨e,he,hb⟩:=IH k cs' (D i) (Pl i) (by omega) h2;refine⟨(e,cs'),fun j v hj=>?_,he,hb,hlen2⟩;have hj8:j<8:=by
     have:j<cs'.length:=(List.getElem?_eq_some_iff.1 (show cs'[j]? =some v from hj)).1;omega
    have:=hcell j hj8;rw [Go.Deep.add_add]at this;rw [this];exact hj
   haveI:Inhabited (WD × List Value):=⟨(.mk false [] [] 0 false 0 [] [],[])⟩
   obtain⟨q,hq⟩:=Go.Deep.choose_lt each;have hget:∀ {α:Type} (g:Nat->α) (i:Nat) (x:α),((List.range nw).map g)[i]? =some x->i<nw/\x=g i:=by
    intro α g i x hx;rw [List.getElem?_map]at hx;obtain⟨i',hi',rfl⟩:=Option.map_eq_some_iff.1 hx;have hlt:i<nw:=by
     have:=(List.getElem?_eq_some_iff.1 hi').1
     simpa using this
    rw [List.getElem?_range hlt]at hi';obtain rfl:=Option.some.inj hi';exact⟨hlt,rfl⟩
   refine⟨some a,nw,m,(List.range nw).map (fun i=>(q i).1),rfl,⟨(List.range nw).map (fun i=>(q i).2),⟨by simp,hl,fun hn=>?_⟩,by simp,fun i=>(q i).2,fun j e hj=>?_,fun j e hj=>?_⟩,fun e he=>?_⟩
   ·obtain⟨b,off,spot⟩:=a
    obtain⟨u,hu⟩:∃u,(q 0).2[0]? =some u:=⟨_,List.getElem?_eq_getElem (by have:=(hq 0 (by omega)).2.2.2;omega)⟩;have h0:=(hq 0 (by omega)).1 0 u hu;have hspot:spot=none:=(by simpa [Addr.add] using World.cell?_spot h0);subst hspot;refine⟨b,off,rfl,World.block_lt_of_cell? _ _ (by rw [add_plain]at h0;exact h0),fun i x hx j v hj=>?_⟩;obtain⟨hlt,rfl⟩:=hget _ i x hx;have:=(hq i hlt).1 j v hj;rw [add_plain]at this;rw [Nat.add_assoc];exact this
   ·obtain⟨hlt,rfl⟩:=hget _ j e hj
    rw [List.getElem?_map,List.getElem?_range hlt];rfl
   ·obtain⟨hlt,rfl⟩:=hget _ j e hj
    exact(hq j hlt).2.1
   ·obtain⟨i,hi,rfl⟩:=List.mem_map.1 he
    exact(hq i (List.mem_range.1 hi)).2.2.1
 obtain⟨Aw,nw,cw2,parts,rfl,hW,hB⟩:=hs;exact⟨_,WRd.close hF hP hW,.mk (u64_wf hw3) hB⟩
theorem Qf9{W:World}{base:Nat}{v:Value}{d:DataW H}{p:List MemPlace}(hv:Value.okWide prog W .any base 32 v)(h:DataW.Trod enc prog W 0 (fun _=>true) true 32 v d p):∃x e,v=.agg (List.toArray x)/\WRd W x e/\bits e:=by
 have hs:∃cs,v=.agg cs:=by
  simp only [Value.okWide,underlying32]at hv;obtain⟨cs,h1,_⟩:=hv;exact⟨cs,h1⟩
 obtain⟨cs,rfl⟩:=hs;obtain⟨fuel,hf⟩:=h;have hf':DataW.trod enc prog W 0 (fun _=>true) true fuel 32 cs.toList=some (d,p):=by simpa [Value.cells] using hf
 obtain⟨e,he,hb⟩:=Qmu _ fuel cs.toList d p (Nat.le_refl _) hf';exact⟨cs.toList,e,by simp,he,hb⟩
theorem Qq1{W:World}{fuel:Nat}{A:Option Addr}{n c:Nat}{y:DataW H × List MemPlace}(hf:DataW.trod enc prog W 0 (fun _=>true) true fuel 22 [.slice A n c]=some y):∃l,IntR W l A n c:=by
 rcases open_ints underlying22 underlying3 (by kernel_rfl) hf with⟨hcs,_⟩|⟨a,len,cap,zs,hcs,_,hl,hm,hz,_,hcell,_⟩
 ·simp at hcs
  obtain⟨rfl,rfl,rfl⟩:=hcs;exact⟨[],Ints.nil _ _ _⟩
 ·simp at hcs
  obtain⟨rfl,rfl,rfl⟩:=hcs;simp only [if_true]at hz;refine⟨zs.take n,by simp [ints];omega,hl,fun hn=>?_⟩;obtain⟨b,off,spot⟩:=a;have hspot:spot=none:=by simpa [Addr.add] using World.cell?_spot (hcell 0 (by omega))
  subst hspot;have hc0:∀j,j<zs.length->W.cell? ⟨b,off+j,none⟩=some (.int .i64 (zs.getD j 0)):=fun j hj=>by
   have:=hcell j hj;have e:(⟨b,off,none⟩:Addr).add j=⟨b,off+j,none⟩:=by unfold Addr.add;split<;>simp_all
   rwa [e]at this
  refine⟨b,off,rfl,World.block_lt_of_cell? _ _ (hc0 0 (by omega)),fun k x hk=>?_⟩;rw [List.getElem?_map]at hk;obtain⟨s,hs,rfl⟩:=Option.map_eq_some_iff.1 hk;have hkn:k<n:=by
   have:=(List.getElem?_eq_some_iff.1 hs).1;rw [List.length_take]at this;omega
  rw [List.getElem?_take_of_lt hkn]at hs;rw [hc0 k (by omega),List.getD_eq_getElem?_getD,hs];rfl
theorem Qn3{W:World}{base:Nat}{v:Value}{d:DataW H}{p:List MemPlace}(hv:Value.okWide prog W .any base 24 v)(h:DataW.Trod enc prog W 0 (fun _=>true) true 24 v d p):∃k A n c l,v=.agg #[.int .i64 k,.slice A n c]/\IntR W l A n c:=by
 have hs:∃cs,v=.agg cs:=by
  simp only [Value.okWide,underlying24]at hv;obtain⟨cs,h1,_⟩:=hv;exact⟨cs,h1⟩
 obtain⟨cs,rfl⟩:=hs;obtain⟨fuel,hf⟩:=h;have hf':DataW.trod enc prog W 0 (fun _=>true) true fuel 24 cs.toList=some (d,p):=by simpa [Value.cells] using hf
 obtain⟨xs,n,rfl,hd,hlen,hxs,hg⟩:=DataW.trod_struct underlying24 hf';have c2:prog.cellsOf 24=2:=by kernel_rfl
 rw [c2]at hlen;obtain⟨l⟩:=cs;obtain⟨w0,w1,rfl⟩:∃a b,l=[a,b]:=by
  have hlen':l.length=2:=hlen
  match l,hlen' with
  |[a,b],_=>exact⟨a,b,rfl⟩
 obtain⟨y0,y1,rfl⟩:∃y0 y1,xs=[y0,y1]:=by
  have hx2:xs.length=2:=hxs
  match xs,hx2 with
  |[a,b],_=>exact⟨a,b,rfl⟩
 have ci:prog.cellsOf 3=1:=by kernel_rfl
 have cs:prog.cellsOf 22=1:=by kernel_rfl
 have g0:DataW.trod enc prog W 0 (fun _=>true) true n 3 (([w0,w1].drop 0).take (prog.cellsOf 3))=some y0:=hg 0 _ rfl;have g1:DataW.trod enc prog W 0 (fun _=>true) true n 22 (([w0,w1].drop 1).take (prog.cellsOf 22))=some y1:=hg 1 _ rfl;rw [ci]at g0;rw [cs]at g1;obtain⟨ik,e1,_,hw1⟩:=DataW.trod_int underlying3 g0;obtain rfl:w0=.int .i64 ik:=by simpa using e1
 have hs:∃A n c,w1=.slice A n c:=by
  rcases Go.Deep.open_slice underlying22 g1 with⟨hcs,_⟩|⟨a,m,c,_,_,_,_,hcs,_⟩
  ·exact⟨none,0,0,by simpa using hcs⟩
  ·exact⟨some a,m,c,by simpa using hcs⟩
 obtain⟨A,m,c,rfl⟩:=hs;obtain⟨l,hl⟩:=Qq1 g1;exact⟨ik,A,m,c,l,rfl,hl⟩
end
end Go.Proofs.YthbhgelncdnmgaaGreatDoor
