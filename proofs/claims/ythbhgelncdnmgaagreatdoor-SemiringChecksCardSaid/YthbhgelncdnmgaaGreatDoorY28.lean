import Derived.Test.YthbhgelncdnmgaaGreatDoorY27
import Derived.RangeFuncGives
import Derived.Sort.MapsRangeIn
import Derived.Sort.KeysCollected
import Derived.OwnWalkIn
import Derived.TacticsInMore
import Derived.RegionIn
import Derived.LoopNIn
import Derived.LoopIn
set_option linter.unusedVariables false
set_option linter.unusedSimpArgs false
set_option maxRecDepth 100000
set_option maxHeartbeats 2000000
namespace Go.Proofs.YthbhgelncdnmgaaGreatDoor
open Go.Proofs.Tryz
open Nat (le_refl)
open Go.RowKit Go.Maps
def Came(D0:DataW Value)(left:Lit->Bool)(ss:List Ex):Prop:=ss.Nodup/\∀e,e∈ss↔(deg e<=5/\has D0 (klOf e)=true/\left (klOf e)=false)
theorem Came.start(D0:DataW Value):Came D0 (has D0) []:=⟨List.nodup_nil,fun e=>by cases has D0 (klOf e)<;>simp⟩
theorem Came.step{D0:DataW Value}{left:Lit->Bool}{ss:List Ex}(h:Came D0 left ss){x:Ex}(hx:deg x<=5){y:DataW Value}(hlk:left (klOf x)=true)(hat:∀zd,D0.atKey (klOf x) zd=y):
 Came D0 (fun z=>left z && !z.sameKey (klOf x)) (ss++[x]):=by
 have hhas:has D0 (klOf x)=true:=has_true_of_atKey hat
 have hnew:x ∉ ss:=fun hm=>by have:=((h.2 x).1 hm).2.2;rw [hlk]at this;cases this
 refine⟨List.nodup_append.2 ⟨h.1,by simp,fun a ha b hb=>by simp at hb;subst hb;exact fun e=>hnew (e▸ha)⟩,fun y=>?_⟩;by_cases hy:y=x
 ·subst hy
  simp [hhas,hx,WideAt.sameKey_self (Qxi hx)]
 ·constructor
  ·intro hm
   have hm':y∈ss:=(by simpa [hy] using hm);obtain⟨h1,h2,h3⟩:=(h.2 y).1 hm';exact⟨h1,h2,by simp [h3]⟩
  ·rintro⟨h1,h2,h3⟩
   have hne:(klOf y).sameKey (klOf x)=false:=sameKey_ne (fun e=>hy (Qxh h1 hx e));have:left (klOf y)=false:=by simpa [hne] using h3
   simp [(h.2 y).2 ⟨h1,h2,this⟩]
def KeysAre(D0:DataW Value)(ss:List Ex):Prop:=ss.Nodup/\∀e,e∈ss↔(deg e<=5/\has D0 (klOf e)=true)
theorem Came.done{D0:DataW Value}{left:Lit->Bool}{ss:List Ex}(h:Came D0 left ss)(hl:∀kl,left kl=false):KeysAre D0 ss:=⟨h.1,fun e=>by rw [h.2 e,hl];simp⟩
theorem Qtf{D0:DataW Value}(hk:∀l,has D0 l=true->∃e,deg e<=5/\l=klOf e){key:Value}{kl:Lit}(h:keyOf prog 147 key=some kl)(hat:has D0 kl=true):∃e,deg e<=5/\key=exV e/\kl=klOf e:=by
 obtain⟨e,he,rfl⟩:=hk kl hat
 exact⟨e,he,keyed.inj h (Qh6 he),rfl⟩
theorem Qv0(F:Fence)(n:Nat)(hF:F.fn 277)(hro:F.round=none)(hn:1<=n)(l Bm b nn:Nat)(D0:DataW Value)(hD0:∀l,has D0 l=true->∃e,deg e<=5/\l=klOf e)(J:List Ex->World->Prop)
 (hY:∀pre x W,J pre W->pre.length<size D0->YieldAt F (n-1) prog l #[exV x] W fun e W'=>e=.returned (.bool true)/\J (pre++[x]) W'/\KeepsWalks W W')
 (W:World)(hJ:AbidesFrom W.heap.size J)(hm:W.cell? ⟨Bm,0,none⟩=some (.map (some b)))(hown:W.ownsMap prog 147 RV b nn D0)(h0:J [] W):
 CallsIn F n prog 277 #[.func (.yield l) #[] #[],.pointer (some ⟨Bm,0,none⟩)] W fun e W'=>(∃v,e=.returned v)/\∃ss:List Ex,KeysAre D0 ss/\J ss W':=by
 refine callsIn_of_wp func277 rfl hF ?_ hro;simp only [ntmps277,List.size_toArray,List.length_cons,List.length_nil,Nat.reduceAdd,Nat.reduceSub,Array.replicate_succ,Array.replicate_zero,List.push_toArray,List.append_toArray,List.nil_append,List.cons_append]
 gi_wp2_with (first
  |(gi_at_range;refine wpListIn_range_own _ rfl _ 145 rfl 147 27 keyed underlying145 _ b nn _ rfl hown ?_;intro w0 hrg0 hg0 hs0)
  |gi_in)
 go_frame
 gi_loopw [3] (fun _ wr=> ∃(left:Lit->Bool) (cnt:Nat) (ss:List Ex),wr.ranges prog 147 RV b W.heap.size nn D0 left cnt/\ss.length+cnt<=size D0/\Came D0 left ss/\J ss wr)
  (fun _ wr=>wr.rangeLeft b W.heap.size)
 case atStart=>
  exact⟨_,_,[],hrg0,by simp,Came.start D0,hJ [] W w0 none h0 hg0 (fun r e=>by cases e)⟩
 case round=>
  obtain⟨left,cnt,ss,hrg,hcs,hC,hJs⟩:=hrel
  gi_wp2_with (first
   |(gi_at_next;refine wpListIn_next_ranges _ rfl _ rfl 147 keyed RV id id (fun key kl hk=>⟨key,rfl⟩) (fun v _ _=>⟨v,rfl⟩) b W.heap.size nn _ _ _ rfl hrg ?_ ?_)
   |gi_in)
  ·intro hc0 hl0
   gi_wp2
   go_end0
   exact⟨⟨_,rfl⟩,ss,hC.done hl0,hJs⟩
  ·intro key c kl yd yp w2 cnt2 hkey hlk hv1 hv2 hat hrg2 hlt hg2 hs2 hen
   obtain⟨x,hx,ekey,rfl⟩:=Qtf hD0 hkey (has_true_of_atKey hat);subst ekey;have hJ2:J ss w2:=hJ ss wr w2 (some W.heap.size) hJs hg2 (fun r e=>by cases e;exact⟨le_refl _,hrg.iter_walk⟩);have hen2:Sem.run prog (Instr.entry (Value.pointer (some {block:=W.heap.size,off:=0}))) w2=Result.ok (Value.tuple #[.agg #[.int .i64 (x.1:Int),.int .i64 (x.2.1:Int),.int .i64 (x.2.2:Int)],c]) w2:=hen;have hJ3:J ss (w2.alloc (E3 x.1 x.2.1 x.2.2)):=hJ ss w2 _ none hJ2 (World.grownBy_alloc _ _ _) (fun r e=>by cases e);have hrg3:=hrg2.alloc (E3 x.1 x.2.1 x.2.2);obtain⟨fn,tmps,assign,body,hy,hR⟩:=hY ss x _ hJ3 (by omega);have d3:=Cs.new w2 [.int .i64 (x.1:Int),.int .i64 (x.2.1:Int),.int .i64 (x.2.2:Int)] 147;have s0:(w2.alloc (E3 x.1 x.2.1 x.2.2)).cell? ⟨w2.heap.size,0,none⟩=some (.int .i64 (x.1:Int)):=d3.cell rfl;have s1:(w2.alloc (E3 x.1 x.2.1 x.2.2)).cell? ⟨w2.heap.size,1,none⟩=some (.int .i64 (x.2.1:Int)):=d3.cell rfl;have s2:(w2.alloc (E3 x.1 x.2.1 x.2.2)).cell? ⟨w2.heap.size,2,none⟩=some (.int .i64 (x.2.2:Int)):=d3.cell rfl;have HRG:=Lib.hid hrg.left_eq;have HJ:=Lib.hid hJ;have HY:=Lib.hid hY;clear hs2 hen hkey hv1 hv2 hrg2 hrg hJ2 hJs hm hs0 hrg0 hJ hY h0 hD0
   gi_wp2
   refine hR.mono ?_;rintro e W3 ⟨rfl,hJ4,hk3⟩
   gi_wp2
   have hrg4:=hrg3.of_walks hk3
   go_roundw
   case rel=>exact⟨_,cnt2,ss++[x],hrg4,by simp;omega,hC.step hx hlk hat,hJ4⟩
   case measure=>rw [hrg4.left_eq,HRG.out];exact hlt
theorem Qqf(F:Fence)(n:Nat)(hF:F.fn 277)(hro:F.round=none)(hn:1<=n)(Bm b nn:Nat)(D0:DataW Value)(hD0:∀l,has D0 l=true->∃e,deg e<=5/\l=klOf e)(w:World)(hBm:Bm<w.heap.size)
 (hm:w.cell? ⟨Bm,0,none⟩=some (.map (some b)))(hown:w.ownsMap prog 147 RV b nn D0):
 SeqGives F n prog 277 #[.pointer (some ⟨Bm,0,none⟩)] exV (KeysAre D0) (size D0) w:=fun l J W hW hJ hY h0=>by
 have hown':W.ownsMap prog 147 RV b nn D0:=by
  have hbl:=hown.lt;obtain⟨es,clock,hb,Ft,hs,hD⟩:=hown;exact⟨es,clock,(hW.block b hbl).trans hb,Ft,hs,hD⟩
 exact Qv0 F n hF hro hn l Bm b nn D0 hD0 J hY W hJ ((hW.cell (p:=⟨Bm,0,none⟩) hBm).trans hm) hown' h0
def flatE(ss:List Ex):List Value:=ss.flatMap fun e=>[.int .i64 (e.1:Int),.int .i64 (e.2.1:Int),.int .i64 (e.2.2:Int)]
theorem Qqg(ss:List Ex)(e:Ex):flatE (ss++[e])=flatE ss++[.int .i64 (e.1:Int),.int .i64 (e.2.1:Int),.int .i64 (e.2.2:Int)]:=by simp [flatE]
theorem Qtg:(prog.info? 147).map (fun i=>(i.zero,i.size,i.bytes))=some (some (.agg #[.int .i64 0,.int .i64 0,.int .i64 0]),3,24):=by kernel_rfl
abbrev TE:TypeId:=147
abbrev TL:TypeId:=183
theorem Qqh{W:World}{base:Nat}{e:TypeId}{size:Nat}{v:Value}{k:Nat}{xs:List Value}(h:W.ownsRow base e size v k xs){j:Nat}{o:Obj}(hj:W.heap[j]? =some o)(hno:∀cur,o≠ .cells cur e (0,0)):v.ownBlock=none\/v.ownBlock≠some j:=by
 rcases h.2 with⟨rfl,_⟩|⟨g,cap,cur,rfl,_,hgb,_⟩
 ·exact .inl rfl
 ·refine .inr fun e'=>?_
  have:g=j:=by simpa [Value.ownBlock] using e'
  subst this;rw [hgb]at hj;cases hj;exact hno cur rfl
theorem Qth{W:World}{base:Nat}{e:TypeId}{size:Nat}{v:Value}{k:Nat}{xs:List Value}(h:W.ownsRow base e size v k xs){j:Nat}{o:Obj}(hj:W.heap[j]? =some o)(hno:∀cur,o≠ .cells cur e (0,0)):some j≠v.ownBlock:=by
 rcases Qqh h hj hno with e|e
 ·rw [e];simp
 ·exact fun e'=>e e'.symm
theorem Qym{W:World}{base:Nat}{e:TypeId}{size:Nat}{v:Value}{k:Nat}{xs:List Value}(h:W.ownsRow base e size v k xs):∀(j:Nat) (o:Obj),v.ownBlock=some j->W.heap[j]? =some o->o.isWalk=false:=by
 intro j o hj ho;rcases h.2 with⟨rfl,_⟩|⟨g,cap,cur,rfl,_,hgb,_⟩
 ·simp [Value.ownBlock]at hj
 ·have:g=j:=by simpa [Value.ownBlock] using hj
  subst this;rw [hgb]at ho;cases ho;rfl
theorem Qti{W W':World}{row:Option Nat}{base:Nat}{e:TypeId}{size:Nat}{v:Value}{k:Nat}{xs:List Value}(h:W.ownsRow base e size v k xs)(hg:W.grownBy W' row)
 (hrow:∀r,row=some r->∃o:Obj,W.heap[r]? =some o/\o.isWalk=true):W'.ownsRow base e size v k xs:=by
 refine h.kept hg ?_;rcases h.2 with⟨rfl,_⟩|⟨g,cap,cur,rfl,_,hgb,_⟩
 ·exact .inl rfl
 ·refine .inr fun e'=>?_
  obtain⟨o,ho,hw⟩:=hrow g (by simpa [Value.ownBlock] using e'.symm);rw [hgb]at ho;cases ho;cases hw
theorem Qdc(W:World)(l:Nat)(o:Obj):W.grownBy (W.putObj l o) (some l):=⟨rfl,rfl,rfl,by simp,fun k _ hk=>World.putObj_heap_other (fun e=>hk (by rw [e]))⟩
theorem Qtj(W:World)(b:Nat)(v:Value):W.grownBy (W.setCell ⟨b,0,none⟩ v) (some b):=⟨rfl,rfl,rfl,(KeepsWalks.setCell W _ v).size,fun k _ hk=>Below.heap_setCell _ _ _ k (fun e=>hk (by rw [e]))⟩
def apAssign:Code:=(Code.region 2 #[{dst:=some 5,op:=Op.alloc TE,type:=0,pos:= "iter.go:51",after:=#[],guard:=none},{dst:=none,op:=Op.store TE (Operand.tmp 5) (Operand.tmp 7),type:=0,pos:= "iter.go:51",after:=#[{on:=0,ground:=Ground.data},{on:=0,ground:=Ground.phase}],guard:=none}] false)
def apBody:Code:=(Code.block 1 (Code.region 3 #[{dst:=some 8,op:=Op.load TL (Operand.tmp 2),type:=TL,pos:= "iter.go:52",after:=#[],guard:=none},{dst:=some 9,op:=Op.load TE (Operand.tmp 5),type:=TE,pos:= "iter.go:52",after:=#[],guard:=none},{dst:=some 10,op:=Op.buildSlice TL 1 #[(0,Operand.tmp 9)],type:=TL,pos:= "iter.go:52",after:=#[{on:=1,ground:=Ground.data}],guard:=none},{dst:=some 11,op:=Op.call {callee:=Callee.builtin Builtin.append,args:=#[Operand.tmp 8,Operand.tmp 10],argTypes:=#[TL,TL]},type:=TL,pos:= "iter.go:52",after:=#[{on:=0,ground:=Ground.data},{on:=2,ground:=Ground.data}],guard:=none},{dst:=none,op:=Op.store TL (Operand.tmp 2) (Operand.tmp 11),type:=0,pos:= "iter.go:52",after:=#[{on:=3,ground:=Ground.data},{on:=3,ground:=Ground.chain},{on:=0,ground:=Ground.phase},{on:=1,ground:=Ground.phase},{on:=2,ground:=Ground.phase},{on:=3,ground:=Ground.phase}],guard:=none}] false))
def apRec(fn:FuncId)(sv:Value)(Bs D:Nat)(st:LoopState)(pend:Option Code):Loop:=
 {state:=st,pending:=pend,fn,tmps:=#[.slice none 0 0,sv,.pointer (some ⟨Bs,0,none⟩),undef,.slice none 0 0,undef,sv,undef,undef,undef,undef,undef,undef],params:=#[7],assign:=apAssign,body:=apBody,defers:=D}
structure Ap (w0:World) (fn:FuncId) (sv:Value) (Bs l D:Nat) (ss:List Ex) (W:World):Prop where
 box:∃v,W.heap[Bs]? =some (.cells #[v] TL (0,0))/\W.ownsRow w0.heap.size TE 3 v ss.length (flatE ss)/\(v=.slice none 0 0↔ss=[])
 L:W.heap[l]? =some (.loop (apRec fn sv Bs D .ready none))
 K:W.heap[D]? =some (.deferred (some []))
 below:Below w0.heap.size w0 W
theorem Qtk(w0:World)(fn:FuncId)(sv:Value)(Bs l D B:Nat)(hB:w0.heap.size<=B):AbidesFrom B (Ap w0 fn sv Bs l D):=fun s W W' row h hg hrow=>by
 have hrow':∀r,row=some r->∃o:Obj,W.heap[r]? =some o/\o.isWalk=true:=fun r e=>(hrow r e).2
 obtain⟨v,hv,hr,hn⟩:=h.box;exact⟨⟨v,(grownBy_keeps hg hrow' hv rfl).trans hv,Qti hr hg hrow',hn⟩,(grownBy_keeps hg hrow' h.L rfl).trans h.L,(grownBy_keeps hg hrow' h.K rfl).trans h.K,h.below.grown hg h.below.size (fun k e=>Nat.le_trans hB (hrow k e).1)⟩
theorem Qtl(w:World)(l:List Value)(t:TypeId):∀j u,l[j]? =some u->(w.alloc (.cells l.toArray t)).cell? ((⟨w.heap.size,0,none⟩:Addr).add j)=some u:=by
 intro j u hj;have e:(⟨w.heap.size,0,none⟩:Addr).add j=⟨w.heap.size,j,none⟩:=by unfold Addr.add;split<;>simp_all
 rw [e];exact(Cs.new w l t).cell hj
theorem Qv1(a b c:Int):∀u∈[Value.int .i64 a,.int .i64 b,.int .i64 c],u.oneCell'=true:=by
 intro u hu;simp only [List.mem_cons,List.not_mem_nil,or_false]at hu;rcases hu with rfl|rfl|rfl<;>rfl
theorem boxc{W:World}{B:Nat}{v:Value}{t:TypeId}(h:W.heap[B]? =some (.cells #[v] t (0,0))):W.cell? ⟨B,0,none⟩=some v/\W.frozen? ⟨B,0,none⟩=false:=by
 constructor<;>simp [World.cell?,World.frozen?,h]
theorem Qyn{W:World}{B:Nat}{v:Value}{t:TypeId}(v':Value)(h:W.heap[B]? =some (.cells #[v] t (0,0))):(W.setCell ⟨B,0,none⟩ v').heap[B]? =some (.cells #[v'] t (0,0)):=by
 have:=heap_setCell_same W B 0 _ _ v' h;rw [this];rfl
theorem Qv2(F:Fence)(m:Nat)(w0:World)(fn:FuncId)(hfn:F.fn fn)(sv:Value)(Bs l D:Nat)(hBl:Bs≠l)(hDl:D≠l)(hDB:D≠Bs)(h0B:w0.heap.size<=Bs)(h0l:w0.heap.size<=l)
 (N:Nat)(hN:N<=1000000)(ss:List Ex)(x:Ex)(W:World)(h:Ap w0 fn sv Bs l D ss W)(hlen:ss.length<N):
 YieldAt F m prog l #[exV x] W fun e W'=>e=.returned (.bool true)/\Ap w0 fn sv Bs l D (ss++[x]) W'/\KeepsWalks W W':=by
 have hne:TL≠TE:=by decide
 obtain⟨i0,hi,hz0,hz1,hz2⟩:=info_parts Qtg;obtain⟨v,hv,hrow,_⟩:=h.box;refine⟨fn,#[.slice none 0 0,sv,.pointer (some ⟨Bs,0,none⟩),undef,.slice none 0 0,undef,sv,exV x,undef,undef,undef,undef,undef],apAssign,apBody,by simpa [apRec] using run_yield (P:=prog) (args:=#[exV x]) h.L rfl,roundIn_of_wpIn hfn ?_⟩;have hl0:l<W.heap.size:=(Array.getElem?_eq_some_iff.1 h.L).1;have hB0:Bs<W.heap.size:=(Array.getElem?_eq_some_iff.1 hv).1;have hD0:D<W.heap.size:=(Array.getElem?_eq_some_iff.1 h.K).1
 -- the round's variable
 obtain⟨Wa,hWa⟩:∃Wa,W.alloc (E3 x.1 x.2.1 x.2.2)=Wa:=⟨_,rfl⟩;have da:Cs Wa W.heap.size [.int .i64 (x.1:Int),.int .i64 (x.2.1:Int),.int .i64 (x.2.2:Int)] TE:=by rw [<-hWa];exact Cs.new W _ _
 have ka:∀k,k<W.heap.size->Wa.heap[k]? =W.heap[k]? :=fun k hk=>by rw [<-hWa];exact Below.heap_alloc _ _ k hk
 have hga:W.grownBy Wa none:=by rw [<-hWa];exact World.grownBy_alloc _ _ _
 have hka:KeepsWalks W Wa:=by rw [<-hWa];exact KeepsWalks.alloc _ _
 have hva:=(ka Bs hB0).trans hv;have hLa:=(ka l hl0).trans h.L;have hKa:=(ka D hD0).trans h.K;have hrowa:Wa.ownsRow w0.heap.size TE 3 v ss.length (flatE ss):=by rw [<-hWa];exact hrow.alloc _
 have hba:Below w0.heap.size w0 Wa:=by rw [<-hWa];exact h.below.alloc h.below.size _
 have hl:l<Wa.heap.size:=(Array.getElem?_eq_some_iff.1 hLa).1;have hgl:W.heap.size≠l:=by omega
 have hbr:=run_beginRound (P:=prog) hLa rfl;obtain⟨W2,hW2⟩:∃W2,Wa.putObj l (.loop {apRec fn sv Bs D .ready none with state:=.busy})=W2:=⟨_,rfl⟩;rw [hW2]at hbr;have hg2:Wa.grownBy W2 (some l):=by rw [<-hW2];exact Qdc _ _ _
 have hk2:KeepsWalks W W2:=by rw [<-hW2];exact hka.trans (KeepsWalks.putObj _ hLa rfl)
 have hv2:W2.heap[Bs]? =some (.cells #[v] TL (0,0)):=by rw [<-hW2];exact(World.putObj_heap_other hBl).trans hva
 have hK2:W2.heap[D]? =some (.deferred (some [])):=by rw [<-hW2];exact(World.putObj_heap_other hDl).trans hKa
 have hL2:W2.heap[l]? =some (.loop {apRec fn sv Bs D .ready none with state:=.busy}):=by rw [<-hW2];exact World.putObj_heap_same hl
 have d2:Cs W2 W.heap.size [.int .i64 (x.1:Int),.int .i64 (x.2.1:Int),.int .i64 (x.2.2:Int)] TE:=by rw [<-hW2];exact(World.putObj_heap_other hgl).trans da
 have hrow2:W2.ownsRow w0.heap.size TE 3 v ss.length (flatE ss):=hrowa.kept hg2 (Qqh hrowa hLa (fun cur e=>by first|cases e|exact hne (Obj.cells.inj e).2.1));have hb2:Below w0.heap.size w0 W2:=hba.grown hg2 hba.size (fun k e=>by cases e;exact h0l);have hBlt:Bs<W2.heap.size:=(Array.getElem?_eq_some_iff.1 hv2).1;have hl2:l<W2.heap.size:=(Array.getElem?_eq_some_iff.1 hL2).1;have hDlt:D<W2.heap.size:=(Array.getElem?_eq_some_iff.1 hK2).1;have hW2s:w0.heap.size<=W2.heap.size:=hb2.size;have s0:W2.cell? ⟨W.heap.size,0,none⟩=some (.int .i64 (x.1:Int)):=d2.cell rfl;have s1:W2.cell? ⟨W.heap.size,1,none⟩=some (.int .i64 (x.2.1:Int)):=d2.cell rfl;have s2:W2.cell? ⟨W.heap.size,2,none⟩=some (.int .i64 (x.2.2:Int)):=d2.cell rfl;obtain⟨hc2,hf2⟩:=boxc hv2;have HWA:=Lib.hid hWa;have HK2:=Lib.hid hk2;clear hWa hW2 hv hrow hva hLa hKa hrowa hba hk2 ka hga hka da;unfold apAssign
 gi_wp2_with (rw [Oper.semAt_eq _ _ _ (fun c h=>by cases h)];go_simp;try go_bits)
 rw [HWA.out];refine⟨W2,hbr,?_⟩;unfold apBody
 gi_wp2_with (first
  |(gi_at_builtin;refine wpListIn_append_own _ rfl _ _ TL rfl w0.heap.size TE i0 (.agg #[.int .i64 0,.int .i64 0,.int .i64 0]) 3 24 underlying183 hi hz0 hz1 hz2 rfl (by decide) _ _ _ rfl (hrow2.alloc _) ⟨W2.heap.size,0,none⟩ 1 1 [.int .i64 (x.1:Int),.int .i64 (x.2.1:Int),.int .i64 (x.2.2:Int)] rfl rfl (Qtl W2 _ _) (Qv1 _ _ _) (by unfold maxLen;omega) (by omega) (by simp;omega) ?_;intro v' w3 hown' hg3 hnil3
    have hv3:w3.heap[Bs]? =some (.cells #[v] TL (0,0)):=(hg3.block Bs (by simp;omega) (Qth hrow2 hv2 (fun cur e=>by first|cases e|exact hne (Obj.cells.inj e).2.1))).trans ((Below.heap_alloc _ _ Bs hBlt).trans hv2);obtain⟨hc3,hf3⟩:=boxc hv3;obtain⟨g',cap',cur',rfl,hbase',hgb',hr1,hr2,hr3,hr4⟩:∃g' cap' cur',v'=.slice (some ⟨g',0,none⟩) (ss.length+1) cap'/\w0.heap.size<=g'/\w3.heap[g']? =some (.cells cur' TE (0,0))/\ss.length+1<=cap'/\cap'<=maxLen/\cur'.size=cap'*3/\cur'.toList.take ((ss.length+1)*3)=flatE ss++[.int .i64 (x.1:Int),.int .i64 (x.2.1:Int),.int .i64 (x.2.2:Int)]:=by
     rcases hown'.2 with⟨_,h0⟩|h'
     ·exact absurd h0 (by omega)
     ·exact h'
    go_frame)
  |(rw [Oper.semAt_eq _ _ _ (fun c h=>by cases h)];go_simp;try go_bits))
 have hk2:=HK2.out;have hL3:w3.heap[l]? =some (.loop {apRec fn sv Bs D .ready none with state:=.busy}):=(hg3.block l (by simp;omega) (Qth hrow2 hL2 (fun cur e=>by first|cases e|exact hne (Obj.cells.inj e).2.1))).trans ((Below.heap_alloc _ _ l hl2).trans hL2);have hK3:w3.heap[D]? =some (.deferred (some [])):=(hg3.block D (by simp;omega) (Qth hrow2 hK2 (fun cur e=>by first|cases e|exact hne (Obj.cells.inj e).2.1))).trans ((Below.heap_alloc _ _ D hDlt).trans hK2);obtain⟨w4,hw4⟩:∃w4,w3.setCell ⟨Bs,0,none⟩ (.slice (some ⟨g',0,none⟩) (ss.length+1) cap')=w4:=⟨_,rfl⟩;rw [hw4];have hg4:w3.grownBy w4 (some Bs):=by rw [<-hw4];exact Qtj _ _ _
 have hv4:w4.heap[Bs]? =some (.cells #[.slice (some ⟨g',0,none⟩) (ss.length+1) cap'] TL (0,0)):=by rw [<-hw4];exact Qyn _ hv3
 have hL4:w4.heap[l]? =some (.loop {apRec fn sv Bs D .ready none with state:=.busy}):=(hg4.block l (Array.getElem?_eq_some_iff.1 hL3).1 (fun e=>hBl (by cases e;rfl))).trans hL3;have hK4:w4.heap[D]? =some (.deferred (some [])):=(hg4.block D (Array.getElem?_eq_some_iff.1 hK3).1 (fun e=>hDB (by cases e;rfl))).trans hK3;have hrow4:=hown'.kept hg4 (Qqh hown' hv3 (fun cur e=>by first|cases e|exact hne (Obj.cells.inj e).2.1));have hl4:l<w4.heap.size:=(Array.getElem?_eq_some_iff.1 hL4).1;have hb3:Below w0.heap.size w0 w3:=(hb2.alloc hb2.size _).grown hg3 (by simp;omega) (fun k e=>(hrow2.lt k e).1);have hb4:Below w0.heap.size w0 w4:=hb3.grown hg4 hb3.size (fun k e=>by cases e;exact h0B);have hk4:KeepsWalks W w4:=((hk2.trans (KeepsWalks.alloc _ _)).trans (KeepsWalks.of_grownBy hg3 (Qym (hrow2.alloc _)))).trans (by rw [<-hw4];exact KeepsWalks.setCell _ _ _);clear hw4;refine⟨_,_,run_endRound none hL4,rfl,⟨⟨_,(World.putObj_heap_other hBl).trans hv4,?_,by simp⟩,World.putObj_heap_same hl4,(World.putObj_heap_other hDl).trans hK4,hb4.grown (Qdc _ _ _) hb4.size (fun k e=>by cases e;exact h0l)⟩,hk4.trans (KeepsWalks.putObj _ hL4 rfl)⟩;have:=hrow4.kept (Qdc w4 l (.loop {{apRec fn sv Bs D .ready none with state:=.busy}with state:=if(none:Option Code).isNone then .ready else .done,pending:=none})) (Qqh hrow4 hL4 (fun cur e=>by first|cases e|exact hne (Obj.cells.inj e).2.1));rw [Qqg,List.length_append];exact this
theorem Qlz(F:Fence)(n:Nat)(h11:F.fn 310)(hro:F.round=none)(hn:2<=n)(g:Nat)(lb:Array Value)(hFg:F.fn g)(eg:∀args w,(callFunc g args).run prog w=.ok (.enter g args) w)
 (S:List Ex->Prop)(N:Nat)(hN:N<=1000000)(w:World)(hseq:SeqGives F (n-1) prog g lb exV S N w):
 CallsIn F n prog 310 #[.slice none 0 0,.func (.func g) #[] lb] w fun e w'=> ∃(v:Value) (ss:List Ex),e=.returned v/\S ss/\w'.ownsRow w.heap.size TE 3 v ss.length (flatE ss)/\(v=.slice none 0 0↔ss=[])/\Below w.heap.size w w':=by
 have h1:1<=n:=by omega
 have hne:TL≠TE:=by decide
 refine callsIn_of_wp_marks func310 rfl h11 ?_ hro;simp only [ntmps310,List.size_toArray,List.length_cons,List.length_nil,Nat.reduceAdd,Nat.reduceSub,Array.replicate_succ,Array.replicate_zero,List.push_toArray,List.append_toArray,List.nil_append,List.cons_append]
 gi_wp2
 refine wpIn_rangeFunc ?_;intro fn hfn;rw [hro];obtain⟨W0,hW0⟩:∃W0,w.alloc (.cells #[.slice none 0 0] TL)=W0:=⟨_,rfl⟩;have hs0:W0.heap.size=w.heap.size+1:=by rw [<-hW0];simp
 have hv0:W0.heap[w.heap.size]? =some (.cells #[.slice none 0 0] TL (0,0)):=by rw [<-hW0];exact World.alloc_heap_new w _
 have hb0:Below w.heap.size w W0:=by rw [<-hW0];exact(Below.refl _ w).alloc (le_refl _) _
 rw [show w.alloc (.cells #[.slice none 0 0] 183)=W0 from hW0];obtain⟨W1,hW1⟩:∃W1,(W0.alloc (.deferred (some []))).alloc (.loop (apRec fn (.func (.func g) #[] lb) w.heap.size W0.heap.size .ready none))=W1:=⟨_,rfl⟩;have hold:∀k,k<W0.heap.size->W1.heap[k]? =W0.heap[k]? :=fun k hk=>by
  rw [<-hW1];exact(Below.heap_alloc _ _ k (by simp;omega)).trans (Below.heap_alloc _ _ k hk)
 have hb1:Below w.heap.size w W1:=by rw [<-hW1];exact(hb0.alloc hb0.size _).alloc (by have:=hb0.size;simp;omega) _
 have hs1:W1.heap.size=W0.heap.size+2:=by rw [<-hW1];simp
 have hM:Ap w fn (.func (.func g) #[] lb) w.heap.size (W0.heap.size+1) W0.heap.size [] W1:=
  ⟨⟨_,(hold w.heap.size (by omega)).trans hv0,⟨rfl,.inl ⟨rfl,rfl⟩⟩,by simp⟩,
   by rw [<-hW1];have:=World.alloc_heap_new (W0.alloc (.deferred (some []))) (.loop (apRec fn (.func (.func g) #[] lb) w.heap.size W0.heap.size .ready none));rwa [World.size_alloc]at this,
   by rw [<-hW1];exact(Below.heap_alloc _ _ _ (by simp)).trans (World.alloc_heap_new W0 _),hb1⟩
 refine⟨W0.heap.size+1,[{target:=.collected W0.heap.size,args:=#[]}],W1,{target:=.fn (.func g) lb,args:=#[.func (.yield (W0.heap.size+1)) #[] #[]]},W1,g,
  #[.func (.yield (W0.heap.size+1)) #[] #[]]++lb,W1,?_,?_,?_,?_,fun _=>h1,?_⟩
 ·rw [<-hW1];exact run_enterLoop_outer _ _ _ _ _
 ·simp [resolve,go_sem]
 ·intro f' hf';simp [Target.leads]at hf';subst hf';exact hFg
 ·simp [invoke,go_sem,eg]
 ·refine(hseq (W0.heap.size+1) (Ap w fn (.func (.func g) #[] lb) w.heap.size (W0.heap.size+1) W0.heap.size) W1 hb1 (Qtk _ _ _ _ _ _ _ hb1.size)
   (fun pre x W hJ hl=>Qv2 F (n-1-1) w fn hfn _ w.heap.size (W0.heap.size+1) W0.heap.size (by omega) (by omega) (by omega) (le_refl _) (by omega) N hN pre x W hJ hl) hM).mono ?_
  rintro e W2 ⟨⟨v0,rfl⟩,ss,hS,h2⟩;obtain⟨v,hv,hrow,hnil⟩:=h2.box;have hend:=run_endLoop (P:=prog) h2.L (by simp [apRec]);obtain⟨W3,hW3⟩:∃W3,W2.putObj (W0.heap.size+1) (.loop {apRec fn (.func (.func g) #[] lb) w.heap.size W0.heap.size .ready none with state:=.exhausted})=W3:=⟨_,rfl⟩;rw [hW3]at hend;have hg3:W2.grownBy W3 (some (W0.heap.size+1)):=by rw [<-hW3];exact Qdc _ _ _
  have hv3:W3.heap[w.heap.size]? =some (.cells #[v] TL (0,0)):=by rw [<-hW3];exact(World.putObj_heap_other (by omega)).trans hv
  have hK3:W3.heap[W0.heap.size]? =some (.deferred (some [])):=by rw [<-hW3];exact(World.putObj_heap_other (by omega)).trans h2.K
  have hrow3:=hrow.kept hg3 (Qqh hrow h2.L (fun cur e=>by first|cases e|exact hne (Obj.cells.inj e).2.1));have hb3:Below w.heap.size w W3:=h2.below.grown hg3 h2.below.size (fun k e=>by cases e;omega);obtain⟨hc3,hf3⟩:=boxc hv3;clear hW3;refine⟨none,W3,hend,?_⟩
  gi_wp2
  rw [<-hs0];refine⟨by simp,.inl ⟨_,_,rfl,run_takeDeferred hK3,?_⟩⟩;exact⟨_,results_tmp rfl _ _ _,v,ss,rfl,hS,hrow3.kept (Qdc _ _ _) (Qqh hrow3 hK3 (fun cur e=>by first|cases e|exact hne (Obj.cells.inj e).2.1)),hnil,hb3.grown (Qdc _ _ _) hb3.size (fun k e=>by cases e;omega)⟩
theorem Qqi(F:Fence)(n:Nat)(h8:F.fn 275)(h11:F.fn 310)(hro:F.round=none)(hn:3<=n)(g:Nat)(lb:Array Value)(hFg:F.fn g)(eg:∀args w,(callFunc g args).run prog w=.ok (.enter g args) w)
 (S:List Ex->Prop)(N:Nat)(hN:N<=1000000)(w:World)(hseq:SeqGives F (n-1-1) prog g lb exV S N w):
 CallsIn F n prog 275 #[.func (.func g) #[] lb] w fun e w'=> ∃(v:Value) (ss:List Ex),e=.returned v/\S ss/\w'.ownsRow w.heap.size TE 3 v ss.length (flatE ss)/\(v=.slice none 0 0↔ss=[])/\Below w.heap.size w w':=by
 have h1:1<=n:=by omega
 have e11:∀args w,(callFunc 310 args).run prog w=.ok (.enter 310 args) w:=enters_of func310 (by kernel_rfl) rfl;refine callsIn_of_wp func275 rfl h8 ?_ hro;simp only [ntmps275,List.size_toArray,List.length_cons,List.length_nil,Nat.reduceAdd,Nat.reduceSub,Array.replicate_succ,Array.replicate_zero,List.push_toArray,List.append_toArray,List.nil_append,List.cons_append]
 gi_wp2_with fail
 refine(Qlz F (n-1) h11 hro (by omega) g lb hFg eg S N hN w hseq).mono ?_;rintro e w' ⟨v,ss,rfl,hS,hrow,hnil,hb⟩
 gi_wp2_with fail
 go_ret;exact⟨v,ss,rfl,hS,hrow,hnil,hb⟩
end Go.Proofs.YthbhgelncdnmgaaGreatDoor
