import Derived.Test.YthbhgelncdnmgaaGreatDoorY39
import Derived.Test.YthbhgelncdnmgaaGreatDoorY41
set_option linter.unusedVariables false
set_option linter.unusedSimpArgs false
set_option maxRecDepth 20000
set_option maxHeartbeats 2000000
namespace Go.Proofs.YthbhgelncdnmgaaGreatDoor
open Go.Proofs.Tryz
open Nat (le_refl lt_or_ge)
open Go.RowKit
def letter(k:Nat):ByteArray:=(⟨#[97,98,99]⟩:ByteArray).extract k (k+1)
def partK(k n:Nat):List ByteArray:=if n=1 then [letter k]else if 1<n then [letter k++⟨#[94]⟩++⟨(Lib.decDigits n).toArray⟩]else []
def comp(e:Ex):Nat->Nat
 |0=>e.1
 |1=>e.2.1
 |_=>e.2.2
def parts(e:Ex)(k:Nat):List ByteArray:=(List.range k).flatMap fun i=>partK i (comp e i)
theorem Qwr(x0 x1 x2 y0 y1 y2:Int)(w:World)(V:Int)(H:Hid (lexI (x0,x1,x2) (y0,y1,y2)=V)):Calls prog 114 #[eV x0 x1 x2,eV y0 y1 y2] w (RetV w (.int .i64 V)):=by
 obtain⟨hb,c1,c2⟩:=blk2 w (e3 x0 x1 x2) (e3 y0 y1 y2) 69 69;have hmx:prog.follows .mixedOrders=true:=by kernel_rfl
 go_enter func114,ntmps114;go_wp2_with fail
 generalize ((w.alloc (.cells #[.int .i64 x0,.int .i64 x1,.int .i64 x2] 69)).alloc (.cells #[.int .i64 y0,.int .i64 y1,.int .i64 y2] 69))=W at*
 refine wp_loop_rounds 4 ?_;rw [rounds_succ];have a0:(W).cell? ⟨w.heap.size,0,none⟩=some (.int .i64 x0):=c1.cell rfl;have b0:(W).cell? ⟨w.heap.size+1,0,none⟩=some (.int .i64 y0):=c2.cell rfl;rcases Int.lt_trichotomy x0 y0 with h0|h0|h0
 ·have HV:V= -1:=by rw [<-H.out];unfold lexI;simp only;rw [if_pos h0]
  have hn:((x0==y0):Bool)=false:=by simp;omega
  have hl:x0<y0:=h0;go_wp2_with fail
  go_region_o
  all_goals go_wp2_with fail
  all_goals go_region_o
  all_goals go_wp2_with fail
  all_goals go_ret
  all_goals exact⟨by rw [HV];rfl,hb.drew.drew⟩
 ·subst h0
  go_wp2_with fail
  go_region_o
  go_wp2_with fail
  clear a0 b0;rw [rounds_succ];have a1:(W.drew).cell? ⟨w.heap.size,1,none⟩=some (.int .i64 x1):=c1.cell rfl;have b1:(W.drew).cell? ⟨w.heap.size+1,1,none⟩=some (.int .i64 y1):=c2.cell rfl;rcases Int.lt_trichotomy x1 y1 with h1|h1|h1
  ·have HV:V= -1:=by rw [<-H.out];unfold lexI;simp only;rw [if_neg (by omega),if_neg (by omega)];rw [if_pos h1]
   have hn:((x1==y1):Bool)=false:=(by simp;omega);have hl:x1<y1:=h1;go_wp2_with fail
   go_region_o
   all_goals go_wp2_with fail
   all_goals go_region_o
   all_goals go_wp2_with fail
   all_goals go_ret
   all_goals exact⟨by rw [HV];rfl,hb.drew.drew.drew⟩
  ·subst h1
   go_wp2_with fail
   go_region_o
   go_wp2_with fail
   clear a1 b1;rw [rounds_succ];have a2:(W.drew.drew).cell? ⟨w.heap.size,2,none⟩=some (.int .i64 x2):=c1.cell rfl;have b2:(W.drew.drew).cell? ⟨w.heap.size+1,2,none⟩=some (.int .i64 y2):=c2.cell rfl;rcases Int.lt_trichotomy x2 y2 with h2|h2|h2
   ·have HV:V= -1:=by rw [<-H.out];unfold lexI;simp only;rw [if_neg (by omega),if_neg (by omega)];rw [if_neg (by omega),if_neg (by omega)];rw [if_pos h2]
    have hn:((x2==y2):Bool)=false:=(by simp;omega);have hl:x2<y2:=h2;go_wp2_with fail
    go_region_o
    all_goals go_wp2_with fail
    all_goals go_region_o
    all_goals go_wp2_with fail
    all_goals go_ret
    all_goals exact⟨by rw [HV];rfl,hb.drew.drew.drew.drew⟩
   ·subst h2
    go_wp2_with fail
    go_region_o
    go_wp2_with fail
    clear a2 b2;rw [rounds_succ];go_wp2_with fail
    go_ret;have HV:V=0:=(by rw [<-H.out];unfold lexI;simp only;rw [if_neg (by omega),if_neg (by omega)];rw [if_neg (by omega),if_neg (by omega)];rw [if_neg (by omega),if_neg (by omega)]);exact⟨by rw [HV];rfl,hb.drew.drew.drew⟩
   ·have HV:V=1:=by rw [<-H.out];unfold lexI;simp only;rw [if_neg (by omega),if_neg (by omega)];rw [if_neg (by omega),if_neg (by omega)];rw [if_neg (by omega),if_pos h2]
    have hn:((x2==y2):Bool)=false:=(by simp;omega);have hl:¬x2<y2:=(by omega);go_wp2_with fail
    go_region_o
    all_goals go_wp2_with fail
    all_goals go_region_o
    all_goals go_wp2_with fail
    all_goals go_ret
    all_goals exact⟨by rw [HV];rfl,hb.drew.drew.drew.drew⟩
  ·have HV:V=1:=by rw [<-H.out];unfold lexI;simp only;rw [if_neg (by omega),if_neg (by omega)];rw [if_neg (by omega),if_pos h1]
   have hn:((x1==y1):Bool)=false:=(by simp;omega);have hl:¬x1<y1:=(by omega);go_wp2_with fail
   go_region_o
   all_goals go_wp2_with fail
   all_goals go_region_o
   all_goals go_wp2_with fail
   all_goals go_ret
   all_goals exact⟨by rw [HV];rfl,hb.drew.drew.drew⟩
 ·have HV:V=1:=by rw [<-H.out];unfold lexI;simp only;rw [if_neg (by omega),if_pos h0]
  have hn:((x0==y0):Bool)=false:=by simp;omega
  have hl:¬x0<y0:=by omega
  go_wp2_with fail
  go_region_o
  all_goals go_wp2_with fail
  all_goals go_region_o
  all_goals go_wp2_with fail
  all_goals go_ret
  all_goals exact⟨by rw [HV];rfl,hb.drew.drew⟩
theorem Qb9(x0 x1 x2:Int)(w:World)(V:Bool)(H:Hid (knownI (x0,x1,x2)=V)):Calls prog 113 #[eV x0 x1 x2] w (RetV w (.bool V)):=by
 obtain⟨hb,c1⟩:=blk1 w (e3 x0 x1 x2) 69;obtain⟨a0,a1,a2⟩:=c1.c3;go_enter func113,ntmps113;go_wp2_with fail
 generalize (w.alloc (.cells #[.int .i64 x0,.int .i64 x1,.int .i64 x2] 69))=W at*
 refine wp_loop_rounds 4 ?_;rw [rounds_succ];rcases out5 x0 with m00|⟨m00,m01⟩|⟨m00,m01,m02,m03⟩
 ·have g:=of_decide_eq_true m00
  go_wp2_with fail
  go_ret;exact⟨Qal (by rw [<-H.out];unfold knownI;exact(decide_eq_false (by simp only;omega)).symm),hb⟩
 ·have g:=of_decide_eq_true m01
  go_wp2_with fail
  go_ret;exact⟨Qal (by rw [<-H.out];unfold knownI;exact(decide_eq_false (by simp only;omega)).symm),hb⟩
 ·have hw0:IntKind.i64.wrap (0+x0)=0+x0:=IntWalk.i64_in _ (by omega)
  go_wp2_with fail
  rw [rounds_succ];rcases out5 x1 with m10|⟨m10,m11⟩|⟨m10,m11,m12,m13⟩
  ·have g:=of_decide_eq_true m10
   go_wp2_with fail
   go_ret;exact⟨Qal (by rw [<-H.out];unfold knownI;exact(decide_eq_false (by simp only;omega)).symm),hb⟩
  ·have g:=of_decide_eq_true m11
   go_wp2_with fail
   go_ret;exact⟨Qal (by rw [<-H.out];unfold knownI;exact(decide_eq_false (by simp only;omega)).symm),hb⟩
  ·have hw1:IntKind.i64.wrap (x0+x1)=x0+x1:=IntWalk.i64_in _ (by omega)
   go_wp2_with fail
   rw [rounds_succ];rcases out5 x2 with m20|⟨m20,m21⟩|⟨m20,m21,m22,m23⟩
   ·have g:=of_decide_eq_true m20
    go_wp2_with fail
    go_ret;exact⟨Qal (by rw [<-H.out];unfold knownI;exact(decide_eq_false (by simp only;omega)).symm),hb⟩
   ·have g:=of_decide_eq_true m21
    go_wp2_with fail
    go_ret;exact⟨Qal (by rw [<-H.out];unfold knownI;exact(decide_eq_false (by simp only;omega)).symm),hb⟩
   ·have hw2:IntKind.i64.wrap (x0+x1+x2)=x0+x1+x2:=IntWalk.i64_in _ (by omega)
    go_wp2_with fail
    rw [rounds_succ];have hv:decide (x0+x1+x2<=5)=V:=(by rw [<-H.out];unfold knownI;exact decide_eq_decide.2 (by simp only;omega));have hw3:(x0+x1+x2<=5)↔V=true:=(by rw [<-hv];simp);clear m00 m01 m02 m03 m10 m11 m12 m13 m20 m21 m22 m23;go_wp2_with fail
    go_ret;exact⟨Qal (by simp),hb⟩
end Go.Proofs.YthbhgelncdnmgaaGreatDoor
namespace Go.Proofs.YthbhgelncdnmgaaGreatDoor
open Go.Proofs.Tryz
open Nat (le_refl lt_or_ge)
theorem Que{l:List Mon}(h:VP l)(m:Mon):m∈l↔deg m.1<=5/\m.2≠0/\m.2=co l m.1:=by
 conv=>lhs;rw [<-Qd8 h]
 exact Qb6
theorem Qws{l l':List Mon}(h:VP l){at_ k:Nat}(hk:at_<=k){mid:List Mon}(hm:VP mid)(h1:∀m∈l.take at_,∀y∈mid,elt y.1 m.1=true)(h2:∀m∈l.drop k,∀y∈mid,elt m.1 y.1=true)(hl:l'=l.take at_++(mid++l.drop k)):VP l':=by
 subst hl;refine⟨fun m hm'=>?_,?_⟩
 ·rcases List.mem_append.1 hm' with h'|h'
  ·exact h.1 m (List.mem_of_mem_take h')
  ·rcases List.mem_append.1 h' with h'|h'
   ·exact hm.1 m h'
   ·exact h.1 m (List.mem_of_mem_drop h')
 ·refine List.pairwise_append.2 ⟨h.2.sublist (List.take_sublist _ _),List.pairwise_append.2 ⟨hm.2,h.2.sublist (List.drop_sublist _ _),fun a ha b hb=>h2 b hb a ha⟩,fun a ha b hb=>?_⟩
  rcases List.mem_append.1 hb with hb|hb
  ·exact h1 a ha b hb
  ·have hsp:=h.2
   rw [<-List.take_append_drop at_ l]at hsp;refine(List.pairwise_append.1 hsp).2.2 a ha b ?_;have:l.drop k=(l.drop at_).drop (k-at_):=by rw [List.drop_drop];congr 1;omega
   rw [this]at hb;exact List.mem_of_mem_drop hb
theorem Qzb{l:List Mon}(h:VP l){e:Ex}{q:Rat}(he:deg e<=5)(hq:q≠0){k:Nat}(h1:∀m∈l.take k,elt e m.1=true)(h2:∀m∈l.drop k,elt m.1 e=true):l.take k++(e,q)::l.drop k=listOf (addAt (co l) e q):=by
 have hno:∀m∈l,m.1≠e:=fun m hm hme=>by
  rw [<-List.take_append_drop k l]at hm;rcases List.mem_append.1 hm with h'|h'
  ·have:=h1 m h';rw [hme,Qc6]at this;cases this
  ·have:=h2 m h';rw [hme,Qc6]at this;cases this
 have hce:co l e=0:=Qlh hno;have hvp:VP (l.take k++(e,q)::l.drop k):=Qws h (le_refl k) (mid:=[(e,q)]) ⟨by simp [he,hq],by simp⟩ (fun m hm y hy=>by simp at hy;subst hy;exact h1 m hm) (fun m hm y hy=>by simp at hy;subst hy;exact h2 m hm) rfl;refine Qr8 hvp (Qfz _) (fun m=>?_);rw [Qb6,List.mem_append,List.mem_cons];unfold addAt;constructor
 ·rintro(hm|rfl|hm)
  ·have h5:=(Que h m).1 (List.mem_of_mem_take hm)
   refine⟨h5.1,h5.2.1,?_⟩;rw [if_neg (hno m (List.mem_of_mem_take hm)),Rat.add_zero];exact h5.2.2
  ·refine⟨he,hq,?_⟩
   rw [if_pos rfl,hce,Rat.zero_add]
  ·have h5:=(Que h m).1 (List.mem_of_mem_drop hm)
   refine⟨h5.1,h5.2.1,?_⟩;rw [if_neg (hno m (List.mem_of_mem_drop hm)),Rat.add_zero];exact h5.2.2
 ·rintro⟨g1,g2,g3⟩
  by_cases hme:m.1=e
  ·refine .inr (.inl ?_)
   rw [if_pos hme,hme,hce,Rat.zero_add]at g3;exact Prod.ext hme g3
  ·rw [if_neg hme,Rat.add_zero]at g3
   have hm:=(Que h m).2 ⟨g1,g2,g3⟩;rw [<-List.take_append_drop k l]at hm;rcases List.mem_append.1 hm with h'|h'
   ·exact .inl h'
   ·exact .inr (.inr h')
theorem Qwt{l:List Mon}{k:Nat}{x:Mon}(hx:l[k]? =some x):l=l.take k++(x::l.drop (k+1)):=by
 have hk:=(List.getElem?_eq_some_iff.1 hx).1
 conv=>lhs;rw [<-List.take_append_drop k l,List.drop_eq_getElem_cons hk]
 rw [(List.getElem?_eq_some_iff.1 hx).2]
theorem around{l:List Mon}(h:VP l){k:Nat}{x:Mon}(hx:l[k]? =some x):(∀m∈l.take k,elt x.1 m.1=true)/\(∀m∈l.drop (k+1),elt m.1 x.1=true):=by
 have hs:=h.2;rw [Qwt hx]at hs;obtain⟨_,h2,h3⟩:=List.pairwise_append.1 hs;exact⟨fun m hm=>h3 m hm x (by simp),fun m hm=>(List.pairwise_cons.1 h2).1 m hm⟩
end Go.Proofs.YthbhgelncdnmgaaGreatDoor
namespace Go.Proofs.YthbhgelncdnmgaaGreatDoor
open Go.Proofs.Tryz
open Nat (le_refl lt_or_ge)
open Go.RowKit
theorem Qn4{α:Type}:∀ {ys:List (List α)},(∀y∈ys,y.length=6)->∀ {j:Nat} {u:α},ys.flatten[j]? =some u->∃i x r,ys[i]? =some x/\x[r]? =some u/\j=i*6+r
 |[],_,j,u,h=>by simp at h
 |y::ys,hl,j,u,h=>by
  have hy:=hl y (by simp);rw [List.flatten_cons]at h;rcases lt_or_ge j 6 with hj|hj
  ·rw [List.getElem?_append_left (by omega)]at h
   exact⟨0,y,j,rfl,h,by omega⟩
  ·rw [List.getElem?_append_right (by omega),hy]at h
   obtain⟨i,x,r,h1,h2,h3⟩:=Qn4 (fun z hz=>hl z (by simp [hz])) h;exact⟨i+1,x,r,by simpa using h1,h2,by omega⟩
theorem Qdy{α:Type}:∀ {ys:List (List α)},(∀y∈ys,y.length=6)->ys.flatten.length=ys.length*6
 |[],_=>rfl
 |y::ys,hl=>by
  rw [List.flatten_cons,List.length_append,hl y (by simp),Qdy (fun z hz=>hl z (by simp [hz])),List.length_cons];omega
theorem Qwu(w:World)(B:Nat)(v:Value)(n:Nat)(xs:List Value)(hown:w.ownsRow B MT 6 v n xs)(A:Option Addr)(m c:Nat)(ys:List (List Value))(hr:RdK w 6 ys A m c)(h6:∀y∈ys,y.length=6)(h1:∀y∈ys,∀u∈y,u.oneCell'=true)(hn:n+m<=1000000)(hB:B<=w.heap.size):
 ∃v' w',(Builtin.append_ #[29,29] 29 #[v,.slice A m c]).run prog w=.ok v' w'/\w'.ownsRow B MT 6 v' (n+m) (xs++ys.flatten)/\w.grownBy w' v.ownBlock:=by
 obtain⟨i0,hi,hz0,hz1,hz2⟩:=info_parts Qha;rcases Nat.eq_zero_or_pos m with h0|h0
 ·subst h0
  have hys:ys=[]:=List.eq_nil_of_length_eq_zero hr.len.symm;subst hys;refine⟨v,w,?_,by simpa using hown,World.grownBy.refl w _⟩;rcases hown.2 with⟨rfl,_⟩|⟨g,cap,cur,rfl,_,_,hnc,_⟩
  ·cases A<;>simp [Builtin.append_,run_underlying underlying29,sizeOf,typeInfo,hi,Builtin.lenOf,Builtin.firstCells,hz1,loadCells,loadCellsFrom,storeCells]
  ·cases A<;>simp [Builtin.append_,run_underlying underlying29,sizeOf,typeInfo,hi,Builtin.lenOf,Builtin.firstCells,hz1,hnc,loadCells,loadCellsFrom,storeCells]
 ·obtain⟨b,o,rfl,hb',hc⟩:=hr.cells h0
  have hl:ys.flatten.length=m*6:=by rw [Qdy h6,hr.len]
  obtain⟨v',w',h2,h3,h4,_⟩:=run_append_own_at (P:=prog) w B 29 29 MT i0 _ 6 80 underlying29 hi hz0 hz1 hz2 rfl (by decide) v n xs hown ⟨b,o,none⟩ m c ys.flatten hl
   (fun j u hju=>by
    obtain⟨i,x,r,g1,g2,g3⟩:=Qn4 h6 hju;have:=hc i x g1 r u g2;have e:(⟨b,o,none⟩:Addr).add j=⟨b,o+i*6+r,none⟩:=(by unfold Addr.add;split<;>simp_all<;>omega);rw [e];exact this) (fun u hu=>by
    obtain⟨y,hy,hu⟩:=List.mem_flatten.1 hu;exact h1 y hy u hu) (by unfold maxLen;omega) (by omega) hB
  exact⟨v',w',h2,h3,h4⟩
def NoLimb(v:Value):Prop:=∀x:Nat,v≠ .int .u32 (x:Int)
theorem Qks{z:Array Value}{n:Nat}{u:Value}(hz:0<z.size)(h:u∈(Builtin.zeroCells z n).toList):u∈z.toList:=by
 unfold Builtin.zeroCells at h;rw [Array.toList_map]at h;obtain⟨i,_,rfl⟩:=List.mem_map.1 h;have:i%z.size<z.size:=Nat.mod_lt _ hz;rw [getElem!_pos z (i%z.size) this];exact Array.getElem_mem_toList this
def Clear(w:World)(v:Value):Prop:=∀g,v.ownBlock=some g->∃cur e fz,w.heap[g]? =some (.cells cur e fz)/\∀u∈cur.toList,NoLimb u
theorem Num.ne_clear{w:World}{l:List Nat}{A:Option Addr}{n c:Nat}(h:Num w l A n c){v:Value}(hv:Clear w v){g:Nat}(hg:v.ownBlock=some g):0<n->∀a,A=some a->a.block≠g:=by
 intro hn a ha e;obtain⟨cur,t,fz,hcur,hno⟩:=hv g hg;obtain⟨b,o,y,hA,_,_,_,hc⟩:=h.at_ hn;rw [ha]at hA;cases hA;simp only at e;subst e;simp only [World.cell?,hcur]at hc;have hm:Value.int .u32 (y:Int)∈cur.toList:=by
  first
   |exact Array.mem_toList_iff.2 (Array.mem_of_getElem? hc)
   |exact List.mem_of_getElem? (by simpa using hc)
 exact hno _ hm y rfl
theorem Qmv{α:Type}:∀ {ys:List (List α)},(∀y∈ys,y.length=6)->∀ {i r:Nat} {x:List α} {u:α},ys[i]? =some x->x[r]? =some u->ys.flatten[i*6+r]? =some u
 |[],_,i,r,x,u,hi,_=>by simp at hi
 |y::ys,hl,i,r,x,u,hi,hr=>by
  have hy:=hl y (by simp);rw [List.flatten_cons]
  match i,hi with
  |0,hi=>
   obtain rfl:y=x:=(by simpa using hi);have:=(List.getElem?_eq_some_iff.1 hr).1;rw [List.getElem?_append_left (by omega),Nat.zero_mul,Nat.zero_add];exact hr
  |i+1,hi=>
   rw [List.getElem?_append_right (by omega),hy,show(i+1)*6+r-6=i*6+r by omega];exact Qmv (fun z hz=>hl z (by simp [hz])) (by simpa using hi) hr
def Cells6(w:World)(ys:List (List Value))(l:List Mon):Prop:=ys.length=l.length/\∀(i:Nat) (m:Mon),l[i]? =some m->∃z0 z1 z2,ys[i]? =some [.int .i64 (m.1.1:Int),.int .i64 (m.1.2.1:Int),.int .i64 (m.1.2.2:Int),z0,z1,z2]/\RatQ w (.agg #[z0,z1,z2]) m.2
theorem Cells6.nil(w:World):Cells6 w [] []:=⟨rfl,fun i m h=>by simp at h⟩
theorem Cells6.app{w:World}{ys ys':List (List Value)}{l l':List Mon}(h:Cells6 w ys l)(h':Cells6 w ys' l'):Cells6 w (ys++ys') (l++l'):=by
 refine⟨by rw [List.length_append,List.length_append,h.1,h'.1],fun i m hm=>?_⟩;rcases lt_or_ge i l.length with hi|hi
 ·rw [List.getElem?_append_left hi]at hm
  obtain⟨z0,z1,z2,g1,g2⟩:=h.2 i m hm;exact⟨z0,z1,z2,by rw [List.getElem?_append_left (by rw [h.1];exact hi)];exact g1,g2⟩
 ·rw [List.getElem?_append_right hi]at hm
  obtain⟨z0,z1,z2,g1,g2⟩:=h'.2 _ m hm;exact⟨z0,z1,z2,by rw [List.getElem?_append_right (by rw [h.1];exact hi),h.1];exact g1,g2⟩
theorem Cells6.imp{w w':World}{ys:List (List Value)}{l:List Mon}(h:Cells6 w ys l)(hR:∀z q,RatQ w z q->RatQ w' z q):Cells6 w' ys l:=
 ⟨h.1,fun i m hm=>by
  obtain⟨z0,z1,z2,g1,g2⟩:=h.2 i m hm;exact⟨z0,z1,z2,g1,hR _ _ g2⟩⟩
theorem Cells6.below{w w':World}{ys:List (List Value)}{l:List Mon}(h:Cells6 w ys l)(hb:Below w.heap.size w w'):Cells6 w' ys l:=h.imp (fun _ _ hr=>hr.below hb)
theorem Cells6.mem{w:World}{ys:List (List Value)}{l:List Mon}(h:Cells6 w ys l):∀y∈ys,y.length=6/\∀u∈y,u.oneCell'=true/\NoLimb u:=by
 intro y hy;obtain⟨i,hi,rfl⟩:=List.getElem_of_mem hy;have hil:i<l.length:=by rw [<-h.1];exact hi
 obtain⟨z0,z1,z2,g1,g2⟩:=h.2 i l[i] (List.getElem?_eq_getElem hil);rw [List.getElem?_eq_getElem hi]at g1;injection g1 with g1;rw [g1];obtain⟨nb,A,n,c,B,m,e,heq⟩:=g2.agg;simp only [Value.agg.injEq,Array.mk.injEq,List.cons.injEq,and_true]at heq;obtain⟨rfl,rfl,rfl⟩:=heq;refine⟨rfl,fun u hu=>?_⟩;simp only [List.mem_cons,List.not_mem_nil,or_false]at hu;rcases hu with rfl|rfl|rfl|rfl|rfl|rfl;all_goals exact⟨rfl,fun x hx=>by cases hx⟩
theorem Cells6.len6{w:World}{ys:List (List Value)}{l:List Mon}(h:Cells6 w ys l):∀y∈ys,y.length=6:=fun y hy=>(h.mem y hy).1
theorem Cells6.pol{w:World}{ys:List (List Value)}{l:List Mon}(h:Cells6 w ys l){A:Option Addr}{n c:Nat}(hr:RdK w 6 ys A n c):Pol w (.slice A n c) l:=by
 refine⟨A,n,c,ys,rfl,hr,by rw [h.1,List.length_map],fun i e q hi=>?_⟩;rw [List.getElem?_map]at hi;obtain⟨m,hm,he⟩:=Option.map_eq_some_iff.1 hi;obtain⟨z0,z1,z2,g1,g2⟩:=h.2 i m hm;cases he;exact⟨z0,z1,z2,g1,g2⟩
theorem rdk_row{w:World}{B n:Nat}{v:Value}{ys:List (List Value)}(h:w.ownsRow B MT 6 v n ys.flatten)(h6:∀y∈ys,y.length=6):∃A c,v=.slice A n c/\RdK w 6 ys A n c:=by
 have hn:n=ys.length:=by have:=h.1;rw [Qdy h6]at this;omega
 rcases h.2 with⟨rfl,hz⟩|⟨g,cap,cur,rfl,hb,hg,r1,r2,r3,r4⟩
 ·subst hz
  exact⟨none,0,rfl,hn,le_refl _,fun h0=>absurd h0 (by decide)⟩
 ·refine⟨_,_,rfl,hn,r1,fun _=>⟨g,0,rfl,Qas hg,fun i x hx j u hu=>?_⟩⟩
  have h5:=Qmv h6 hx hu;rw [Nat.zero_add,cell_of_row w g (i*6+j) _ _ _ hg];rw [<-r4,List.getElem?_take]at h5;split at h5
  ·rw [<-Array.getElem?_toList];exact h5
  ·cases h5
end Go.Proofs.YthbhgelncdnmgaaGreatDoor
namespace Go.Proofs.YthbhgelncdnmgaaGreatDoor
open Go.Proofs.Tryz
open Nat (le_refl lt_or_ge)
def place(l:List Mon)(e:Ex):Nat:=l.findIdx (fun m=>!elt e m.1)
theorem Qmw{l:List Mon}{e:Ex}{i:Nat}(h:i<place l e){m:Mon}(hm:l[i]? =some m):elt e m.1=true:=by
 have hi:=(List.getElem?_eq_some_iff.1 hm).1;have:=List.not_of_lt_findIdx h;rw [(List.getElem?_eq_some_iff.1 hm).2]at this
 simpa using this
theorem Qwv{l:List Mon}{e:Ex}{m:Mon}(hm:l[place l e]? =some m):elt e m.1=false:=by
 obtain⟨hi,he⟩:=List.getElem?_eq_some_iff.1 hm;have h:(fun m:Mon=>!elt e m.1) l[place l e]=true:=List.findIdx_getElem (w:=hi);rw [he]at h
 simpa using h
theorem Qq2{l:List Mon}{e:Ex}:∀m∈l.take (place l e),elt e m.1=true:=by
 intro m hm;obtain⟨i,hi,rfl⟩:=List.getElem_of_mem hm;have hlt:i<place l e:=by rw [List.length_take]at hi;omega
 rw [List.getElem_take];exact Qmw hlt (List.getElem?_eq_getElem _)
theorem Qq3{l:List Mon}(h:VP l){e:Ex}(hne:∀x,l[place l e]? =some x->x.1≠e):∀m∈l.drop (place l e),elt m.1 e=true:=by
 intro m hm;rcases lt_or_ge (place l e) l.length with hlt|hge
 ·obtain⟨x,hx⟩:∃x,l[place l e]? =some x:=⟨_,List.getElem?_eq_getElem hlt⟩
  have hxe:elt x.1 e=true:=by
   rcases Qhu (hne x hx)with h1|h1
   ·exact h1
   ·rw [Qwv hx]at h1;cases h1
  rw [List.drop_eq_getElem_cons hlt,(List.getElem?_eq_some_iff.1 hx).2]at hm;rcases List.mem_cons.1 hm with rfl|hm
  ·exact hxe
  ·exact Qht ((around h hx).2 m hm) hxe
 ·rw [List.drop_eq_nil_of_le hge]at hm;cases hm
theorem Quf{l:List Mon}(h:VP l){e:Ex}{q:Rat}(he:deg e<=5)(hq:q≠0)(hne:∀x,l[place l e]? =some x->x.1≠e):l.take (place l e)++([(e,q)]++l.drop (place l e))=listOf (addAt (co l) e q):=
 Qzb h he hq Qq2 (Qq3 h hne)
end Go.Proofs.YthbhgelncdnmgaaGreatDoor
namespace Go.Proofs.YthbhgelncdnmgaaGreatDoor
open Go.Proofs.Tryz
open Nat (le_refl lt_or_ge)
open Go.RowKit
theorem Qug{w:World}{g:Nat}{cur:Array Value}{e:TypeId}{fz:Nat × Nat}(xs:Array Value)(hg:w.heap[g]? =some (.cells cur e fz)):∃t z,(w.setRow g xs).heap[g]? =some (.cells xs t z):=⟨_,_,setRow_heap w g cur xs e fz hg⟩
theorem Quh(w:World):Clear w (.slice none 0 0):=fun g hg=>by cases hg
theorem Qui(w:World)(B:Nat)(v:Value)(n:Nat)(xs:List Value)(hown:w.ownsRow B MT 6 v n xs)(hcl:Clear w v)(A:Option Addr)(m c:Nat)(ys:List (List Value))(hr:RdK w 6 ys A m c)(h6:∀y∈ys,y.length=6)(h1:∀y∈ys,∀u∈y,u.oneCell'=true/\NoLimb u)(hn:n+m<=1000000){v':Value}{w':World}
 (hrun:(Builtin.append_ #[29,29] 29 #[v,.slice A m c]).run prog w=.ok v' w'):Clear w' v':=by
 obtain⟨i0,hi,hz0,hz1,hz2⟩:=info_parts Qha;rcases Nat.eq_zero_or_pos m with h0|h0
 ·subst h0
  have hr0:(Builtin.append_ #[29,29] 29 #[v,.slice A 0 c]).run prog w=.ok v w:=by
   rcases hown.2 with⟨rfl,_⟩|⟨g,cap,cur,rfl,_,_,hnc,_⟩
   ·cases A<;>simp [Builtin.append_,run_underlying underlying29,sizeOf,typeInfo,hi,Builtin.lenOf,Builtin.firstCells,hz1,loadCells,loadCellsFrom,storeCells]
   ·cases A<;>simp [Builtin.append_,run_underlying underlying29,sizeOf,typeInfo,hi,Builtin.lenOf,Builtin.firstCells,hz1,hnc,loadCells,loadCellsFrom,storeCells]
  rw [hr0]at hrun;cases hrun;exact hcl
 ·obtain⟨b,o,rfl,hb',hc⟩:=hr.cells h0
  have hl:ys.flatten.length=m*i0.size:=by rw [Qdy h6,hr.len,hz1]
  have hnews:∀j u,ys.flatten[j]? =some u->w.cell? ((⟨b,o,none⟩:Addr).add j)=some u:=fun j u hju=>by
   obtain⟨i,x,r,g1,g2,g3⟩:=Qn4 h6 hju;have:=hc i x g1 r u g2;have e:(⟨b,o,none⟩:Addr).add j=⟨b,o+i*6+r,none⟩:=(by unfold Addr.add;split<;>simp_all<;>omega);rw [e];exact this
  have hno:∀u∈ys.flatten,NoLimb u:=fun u hu=>by
   obtain⟨y,hy,hu⟩:=List.mem_flatten.1 hu;exact(h1 y hy u hu).2
  have hoc:∀u∈ys.flatten,u.oneCell'=true:=fun u hu=>by
   obtain⟨y,hy,hu⟩:=List.mem_flatten.1 hu;exact(h1 y hy u hu).1
  have hzn:∀(N:Nat) (u:Value),u∈(Builtin.zeroCells (Value.agg #[.int .i64 0,.int .i64 0,.int .i64 0,.bool false,.slice none 0 0,.slice none 0 0]).cells N).toList->NoLimb u:=fun N u hu=>by
   have hz:=Qks (by decide) hu;intro x hx;subst hx;simp [Value.cells]at hz
  rcases hown.2 with⟨rfl,hz⟩|⟨g,cap,cur,rfl,hbg,hg,hnc,hcm,hcs,htake⟩
  ·have hr2:=run_append_nil (P:=prog) w 29 29 MT i0 _ underlying29 hi hz0 ⟨b,o,none⟩ m c ys.flatten hl hnews h0 (by omega) (by rw [hz2];omega)
   rw [hr2]at hrun;cases hrun;intro g hg;have:g=w.heap.size:=by simpa [Value.ownBlock,eq_comm] using hg
   subst this;refine⟨_,_,_,heap_alloc_new w.drew _,fun u hu=>?_⟩;rw [Array.toList_append]at hu;rcases List.mem_append.1 hu with hu|hu
   ·exact hno u hu
   ·exact hzn _ u hu
  ·obtain⟨cur2,t2,f2,hg2,hcl2⟩:=hcl g rfl
   rw [hg]at hg2;cases hg2;by_cases hroom:n+m<=cap
   ·have hfit:n*i0.size+ys.flatten.length<=cur.size:=by
     rw [hl,hz1,hcs,<-Nat.add_mul];exact Nat.mul_le_mul_right _ hroom
    have hr2:=run_append_room (P:=prog) w 29 29 MT i0 underlying29 hi g n cap cur hg ⟨b,o,none⟩ m c ys.flatten hl hnews hoc hroom hfit;rw [hr2]at hrun;cases hrun;intro g' hg';have:g'=g:=by simpa [Value.ownBlock,eq_comm] using hg'
    subst this;obtain⟨t,z,hh⟩:=Qug (cur.toList.take (n*i0.size)++ys.flatten++cur.toList.drop (n*i0.size+ys.flatten.length)).toArray hg;refine⟨_,_,_,hh,fun u hu=>?_⟩;rw [List.toList_toArray]at hu;rcases List.mem_append.1 hu with hu|hu
    ·rcases List.mem_append.1 hu with hu|hu
     ·exact hcl2 u (List.mem_of_mem_take hu)
     ·exact hno u hu
    ·exact hcl2 u (List.mem_of_mem_drop hu)
   ·have holds:∀j u,xs[j]? =some u->w.cell? ((⟨g,0,none⟩:Addr).add j)=some u:=hown.cells (g:=g) rfl
    have hxl:xs.length=n*i0.size:=(by rw [hz1];exact hown.1);have hr2:=run_append_grow (P:=prog) w 29 29 MT i0 _ underlying29 hi hz0 ⟨g,0,none⟩ n cap xs hxl holds ⟨b,o,none⟩ m c ys.flatten hl hnews (by omega) (by omega) (growslice_fits (by omega) (by rw [hz2];omega));rw [hr2]at hrun;cases hrun;intro g' hg';have:g'=w.heap.size:=by simpa [Value.ownBlock,eq_comm] using hg'
    subst this;refine⟨_,_,_,heap_alloc_new w.drew _,fun u hu=>?_⟩;rw [Array.toList_append]at hu;rcases List.mem_append.1 hu with hu|hu
    ·rw [Array.toList_append]at hu
     rcases List.mem_append.1 hu with hu|hu
     ·refine hcl2 u ?_
      have hx:u∈cur.toList.take (n*6):=(by rw [htake];simpa using hu);exact List.mem_of_mem_take hx
     ·exact hno u (by simpa using hu)
    ·exact hzn _ u hu
theorem Num.clr{w w':World}{l:List Nat}{A:Option Addr}{n c:Nat}(h:Num w l A n c){v:Value}(hv:Clear w v)(hg:w.grownBy w' v.ownBlock):Num w' l A n c:=
 ⟨h.len,h.cap,h.lim,fun hn=>by
  obtain⟨b,o,hA,hb,hc⟩:=h.cells hn;refine⟨b,o,hA,Nat.lt_of_lt_of_le hb hg.size,fun k x hx=>(World.cell?_of_block (w:=w) (hg.block b hb (fun e=>?_))).trans (hc k x hx)⟩;exact h.ne_clear hv e.symm hn _ hA rfl⟩
theorem RatQ.clr{w w':World}{z:Value}{q:Rat}(h:RatQ w z q){v:Value}(hv:Clear w v)(hg:w.grownBy w' v.ownBlock):RatQ w' z q:=by
 obtain⟨A,n,c,A',m,c',e,h1,h2⟩:=h;exact⟨A,n,c,A',m,c',e,h1.clr hv hg,h2.clr hv hg⟩
theorem Clear.keep{w w':World}{v:Value}(h:Clear w v)(hk:∀g,v.ownBlock=some g->w'.heap[g]? =w.heap[g]?):Clear w' v:=fun g hg=>by
 obtain⟨cur,e,fz,h1,h2⟩:=h g hg;exact⟨cur,e,fz,(hk g hg).trans h1,h2⟩
structure OwnP (w:World) (B:Nat) (v:Value) (l:List Mon):Prop where
 row:∃ys,w.ownsRow B MT 6 v l.length ys.flatten/\Cells6 w ys l
 clear:Clear w v
theorem OwnP.nil(w:World)(B:Nat):OwnP w B (.slice none 0 0) []:=⟨⟨[],World.ownsRow_nil ..,Cells6.nil w⟩,Quh w⟩
theorem OwnP.lt{w:World}{B:Nat}{v:Value}{l:List Mon}(h:OwnP w B v l):∀g,v.ownBlock=some g->B<=g/\g<w.heap.size:=fun g hg=>by
 obtain⟨ys,hown,_⟩:=h.row;obtain⟨cur,e,fz,h1,_⟩:=h.clear g hg;exact⟨(hown.lt g hg).1,Qas h1⟩
theorem OwnP.more{w:World}{B B':Nat}{v:Value}{l:List Mon}(h:OwnP w B v l)(hB:B'<=B):OwnP w B' v l:=by
 obtain⟨ys,hown,hc⟩:=h.row;refine⟨⟨ys,⟨hown.1,?_⟩,hc⟩,h.clear⟩;rcases hown.2 with h1|⟨g,cap,cur,h1,h2,h3⟩
 ·exact .inl h1
 ·exact .inr ⟨g,cap,cur,h1,Nat.le_trans hB h2,h3⟩
theorem OwnP.below{w w':World}{B:Nat}{v:Value}{l:List Mon}(h:OwnP w B v l)(hb:Below w.heap.size w w'):OwnP w' B v l:=by
 obtain⟨ys,hown,hc⟩:=h.row;exact⟨⟨ys,Qf3 hown hb,hc.below hb⟩,h.clear.keep fun g hg=>hb.block g (h.lt g hg).2⟩
theorem OwnP.pol{w:World}{B:Nat}{v:Value}{l:List Mon}(h:OwnP w B v l):Pol w v l:=by
 obtain⟨ys,hown,hc⟩:=h.row;obtain⟨A,c,rfl,hr⟩:=rdk_row hown hc.len6;exact hc.pol hr
theorem OwnP.app{w:World}{B:Nat}{v:Value}{l:List Mon}(h:OwnP w B v l){A:Option Addr}{m c:Nat}{ys:List (List Value)}{r:List Mon}(hr:RdK w 6 ys A m c)(hc:Cells6 w ys r)(hn:l.length+m<=1000000)(hB:B<=w.heap.size):
 ∃v' w',Hid ((Builtin.append_ #[29,29] 29 #[v,.slice A m c]).run prog w=.ok v' w')/\OwnP w' B v' (l++r)/\w.grownBy w' v.ownBlock/\(∀z q,RatQ w z q->RatQ w' z q):=by
 obtain⟨ys0,hown,hc0⟩:=h.row;obtain⟨v',w',hrun,hown',hg⟩:=Qwu w B v l.length ys0.flatten hown A m c ys hr hc.len6 (fun y hy u hu=>((hc.mem y hy).2 u hu).1) hn hB;have hcl:=Qui w B v l.length ys0.flatten hown h.clear A m c ys hr hc.len6 (fun y hy=>(hc.mem y hy).2) hn hrun;have hk:∀z q,RatQ w z q->RatQ w' z q:=fun z q hq=>hq.clr h.clear hg
 refine⟨v',w',Lib.hid hrun,⟨⟨ys0++ys,?_,(hc0.imp hk).app (hc.imp hk)⟩,hcl⟩,hg,hk⟩;rw [List.length_append,<-hc.1,<-hr.len,List.flatten_append];exact hown'
theorem Qzc{w:World}{g:Nat}{z0 z1 z2 z3 z4 z5:Value}(h:Cs w g [z0,z1,z2,z3,z4,z5] MT):RdK w 6 [[z0,z1,z2,z3,z4,z5]] (some ⟨g,0,none⟩) 1 1:=
 ⟨rfl,le_refl _,fun _=>⟨g,0,rfl,h.lt,fun i x hx j v hv=>by
  match i,hx with
  |0,hx=>
   cases hx;rw [show 0+0*6+j=j by omega];exact h.cell hv
  |i+1,hx=>simp at hx⟩⟩
theorem Qq4{w:World}{m:Mon}{z0 z1 z2:Value}(h:RatQ w (.agg #[z0,z1,z2]) m.2):Cells6 w [[.int .i64 (m.1.1:Int),.int .i64 (m.1.2.1:Int),.int .i64 (m.1.2.2:Int),z0,z1,z2]] [m]:=
 ⟨rfl,fun i x hx=>by
  match i,hx with
  |0,hx=>cases hx;exact⟨z0,z1,z2,rfl,h⟩
  |i+1,hx=>simp at hx⟩
theorem OwnP.app1{w:World}{B:Nat}{v:Value}{l:List Mon}(h:OwnP w B v l){g:Nat}{m:Mon}{z0 z1 z2:Value}(hg:Cs w g [.int .i64 (m.1.1:Int),.int .i64 (m.1.2.1:Int),.int .i64 (m.1.2.2:Int),z0,z1,z2] MT)(hq:RatQ w (.agg #[z0,z1,z2]) m.2)(hn:l.length+1<=1000000)(hB:B<=w.heap.size):
 ∃v' w',Hid ((Builtin.append_ #[29,29] 29 #[v,.slice (some ⟨g,0,none⟩) 1 1]).run prog w=.ok v' w')/\OwnP w' B v' (l++[m])/\w.grownBy w' v.ownBlock/\(∀z q,RatQ w z q->RatQ w' z q):=
 h.app (Qzc hg) (Qq4 hq) hn hB
theorem OwnP.grown{w0 w w':World}{B:Nat}{v:Value}{l:List Mon}(h:OwnP w B v l)(hb:Below B w0 w)(hB:B<=w.heap.size)(hg:w.grownBy w' v.ownBlock):Below B w0 w':=hb.grown hg hB (fun j e=>(h.lt j e).1)
theorem Qn5{w:World}{ops:Array Oper}{rest:List Oper}{o:Oper}{a:Act}{Q:Exit->Act->World->Prop}(hgd:o.guard=none)(sl x:Operand)
 (ho:o.op=.call {callee:=.builtin .append,args:=#[sl,x],argTypes:=#[29,29]})(hty:o.type=29)(v v' u:Value)(w':World)(hs:a.eval sl=v)(hx:a.eval x=u)
 (hrun:Hid ((Builtin.append_ #[29,29] 29 #[v,u]).run prog w=.ok v' w'))(h:wpList prog ops Q rest (a.put o.dst v') w'):wpList prog ops Q (o::rest) a w:=by
 refine wpList_plain hgd fun K hK=>?_
 have hr:=hrun.out;unfold Oper.wp;simp [execOp,ho,hty,resolve,invoke,builtin,hs,hx,hr,Result.andThen];exact hK _ _ h
theorem RdK.drop{w:World}{xs:List (List Value)}{b o n c:Nat}(h:RdK w 6 xs (some ⟨b,o,none⟩) n c){j:Nat}(hj:j<=n):RdK w 6 (xs.drop j) (some ⟨b,o+j*6,none⟩) (n-j) (c-j):=
 ⟨by rw [List.length_drop,h.len],by have:=h.cap;omega,fun hn=>by
  obtain⟨b',o',hA,hb,hc⟩:=h.cells (by omega);cases hA;refine⟨b,o+j*6,rfl,hb,fun i x hx r v hv=>?_⟩;rw [List.getElem?_drop]at hx;have:=hc _ x hx r v hv;rw [show o+j*6+i*6+r=o+(j+i)*6+r by rw [Nat.add_mul];omega];exact this⟩
theorem Cells6.drop{w:World}{ys:List (List Value)}{l:List Mon}(h:Cells6 w ys l)(j:Nat):Cells6 w (ys.drop j) (l.drop j):=
 ⟨by rw [List.length_drop,List.length_drop,h.1],fun i m hm=>by
  rw [List.getElem?_drop]at hm⊢;exact h.2 _ m hm⟩
theorem Cells6.take{w:World}{ys:List (List Value)}{l:List Mon}(h:Cells6 w ys l)(j:Nat):Cells6 w (ys.take j) (l.take j):=
 ⟨by rw [List.length_take,List.length_take,h.1],fun i m hm=>by
  rw [List.getElem?_take]at hm⊢;split at hm
  ·next hlt=>rw [if_pos hlt];exact h.2 _ m hm
  ·cases hm⟩
theorem RatQ.setL{w:World}{z:Value}{q:Rat}(h:RatQ w z q){g k:Nat}{l:List Value}{t:TypeId}(hr:Cs w g l t)(hl:∀v∈l,∀x:Nat,v≠ .int .u32 (x:Int))(us:List Value):RatQ (Go.Proofs.YthbhgelncdnmgaaGreatDoor.setL w g k us) z q:=by
 obtain⟨A,n,c,A',m,c',e,h1,h2⟩:=h;exact⟨A,n,c,A',m,c',e,h1.setL (h1.ne_cs hr hl) us k,h2.setL (h2.ne_cs hr hl) us k⟩
theorem Qmx{g b:Nat}(hne:b≠g):∀(us:List Value) (k:Nat) (w:World),(setL w g k us).heap[b]? =w.heap[b]?
 |[],_,_=>rfl
 |u::us,k,w=>by
  show(setL (w.setCell ⟨g,k,none⟩ u) g (k+1) us).heap[b]? =_;rw [Qmx hne us];exact Below.heap_setCell w ⟨g,k,none⟩ u b hne
end Go.Proofs.YthbhgelncdnmgaaGreatDoor
