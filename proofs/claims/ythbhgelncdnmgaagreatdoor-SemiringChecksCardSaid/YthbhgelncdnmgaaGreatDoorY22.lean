import Derived.RegionTactic
import Derived.Below
import Derived.Test.YthbhgelncdnmgaaGreatDoorY20
set_option linter.unusedVariables false
set_option linter.unusedSimpArgs false
set_option maxRecDepth 20000
set_option maxHeartbeats 4000000
namespace Go.Proofs.YthbhgelncdnmgaaGreatDoor
open Go.Proofs.Tryz
open Lib (hid)
open Nat (zero_le lt_or_eq_of_le le_of_lt_succ not_lt_zero)
open Go Go.RowKit
section
variable {P:Program} {ops:Array Oper} {Q:Exit->Act->World->Prop} {md:Region.Mode}
def upd(f:Nat->Value)(d:Nat)(v:Value):Nat->Value:=fun k=>if k=d then v else f k
def dstOf(ops:Array Oper)(i:Nat):Nat:=((ops[i]?).bind (·.dst)).getD 0
def waits(md:Region.Mode)(ops:Array Oper):Nat->Nat->Nat->Bool
 |0,_,_=>false
 |n+1,i,j=>((ops[i]?).map fun o=>o.after.any fun e=>Region.binds md e && (e.on==j||waits md ops n e.on j)).getD false
def frontOk(md:Region.Mode)(ops:Array Oper)(F:Nat->Bool):Bool:=
 (List.range ops.size).all fun i=>match ops[i]? with
  |none=>true
  |some o=>if F i then(o.dst.isSome && o.after.all (fun e=>!Region.binds md e||(decide (e.on<i) && F e.on)) && (List.range ops.size).all (fun j=>!F j||j==i||dstOf ops j !=dstOf ops i))
   else(List.range ops.size).all (fun j=>!F j||waits md ops 9 i j)
structure Front (md:Region.Mode) (ops:Array Oper) (F S:Nat->Bool) (G:Nat->Value->World->Prop) (B:World->Prop) (listed:Array Bool) (f:Nat->Value) (w:World):Prop where
 size:listed.size=ops.size
 got:∀i,i<ops.size->listed.getD i false=true->F i=true/\G i (f (dstOf ops i)) w
 base:B w
 shut:∀i o,ops[i]? =some o->listed.getD i false=true->∀e∈o.after,Region.binds md e=true->listed.getD e.on false=true
 apart:∀i j,i<ops.size->j<ops.size->listed.getD i false=true->listed.getD j false=true->S i=true->S j=true->i≠j->f (dstOf ops i)≠f (dstOf ops j)
def left(ops:Array Oper)(F:Nat->Bool)(listed:Array Bool):Nat:=(List.range ops.size).countP fun i=>F i && !listed.getD i false
theorem Qeo{F:Nat->Bool}(h:frontOk md ops F=true){i:Nat}{o:Oper}(ho:ops[i]? =some o)(hi:F i=true):
 (∃d,o.dst=some d)/\(∀e∈o.after,Region.binds md e=true->e.on<i/\F e.on=true)/\∀j,j<ops.size->F j=true->j≠i->dstOf ops j≠dstOf ops i:=by
 have hlt:i<ops.size:=(Array.getElem?_eq_some_iff.1 ho).1;have h1:=List.all_eq_true.1 h i (List.mem_range.2 hlt);simp only [ho,hi,if_true,Bool.and_eq_true]at h1;refine⟨Option.isSome_iff_exists.1 h1.1.1,fun e he hb=>?_,fun j hj hF hne=>?_⟩
 ·have:=Array.all_eq_true_iff_forall_mem.1 h1.1.2 e he
  simpa [hb] using this
 ·have:=List.all_eq_true.1 h1.2 j (List.mem_range.2 hj)
  simpa [hF,hne] using this
theorem Qgu{listed:Array Bool}(shut:∀i o,ops[i]? =some o->listed.getD i false=true->∀e∈o.after,Region.binds md e=true->listed.getD e.on false=true){j:Nat}:∀(n i:Nat) (o:Oper),ops[i]? =some o->(∀e∈o.after,Region.binds md e=true->listed.getD e.on false=true)->waits md ops n i j=true->listed.getD j false=true
 |0,_,_,_,_,h=>by cases h
 |n+1,i,o,ho,hd,h=>by
  unfold waits at h;rw [ho]at h;obtain⟨e,he,hb⟩:=Array.any_eq_true'.1 (show(o.after.any fun e=>Region.binds md e && (e.on==j||waits md ops n e.on j))=true from h);simp only [Bool.and_eq_true,Bool.or_eq_true,beq_iff_eq]at hb;have hl:=hd e he hb.1;rcases hb.2 with h1|h1
  ·rw [<-h1];exact hl
  ·cases ho':ops[e.on]? with
   |none=>
    cases n with
    |zero=>cases h1
    |succ n=>unfold waits at h1;rw [ho']at h1;cases h1
   |some o'=>exact Qgu shut n e.on o' ho' (shut e.on o' ho' hl) h1
theorem Qnt{F:Nat->Bool}(h:frontOk md ops F=true){i:Nat}{o:Oper}(ho:ops[i]? =some o)(hi:F i=false){j:Nat}(hj:j<ops.size)(hF:F j=true):waits md ops 9 i j=true:=by
 have hlt:i<ops.size:=(Array.getElem?_eq_some_iff.1 ho).1;have h1:=List.all_eq_true.1 h i (List.mem_range.2 hlt);simp only [ho,hi,Bool.false_eq_true,if_false]at h1;have h2:=List.all_eq_true.1 h1 j (List.mem_range.2 hj);rw [hF]at h2
 simpa using h2
theorem Qje{i d:Nat}{o:Oper}(ho:ops[i]? =some o)(hd:o.dst=some d):dstOf ops i=d:=by simp [dstOf,ho,hd]
theorem Qjf{p q:Nat->Bool}{i:Nat}(hp:p i=true)(hq:q i=false)(h:∀j,j≠i->q j=p j):∀l:List Nat,l.Nodup->i∈l->l.countP p=l.countP q+1
 |[],_,hm=>by cases hm
 |x::l,hnd,hm=>by
  have hx:=List.nodup_cons.1 hnd;by_cases e:x=i
  ·subst e
   have:l.countP p=l.countP q:=List.countP_congr fun j hj=>by
    rw [h j (fun e=>hx.1 (e▸hj))]
   simp [hp,hq,this]
  ·have hm':i∈l:=(List.mem_cons.1 hm).resolve_left (fun e'=>e e'.symm)
   have ih:=Qjf hp hq h l hx.2 hm';simp only [List.countP_cons,h x e];omega
theorem Qs9{F:Nat->Bool}{listed:Array Bool}{i:Nat}(hs:listed.size=ops.size)(hi:i<ops.size)(hF:F i=true)(hu:listed.getD i true=false):left ops F listed=left ops F (listed.setIfInBounds i true)+1:=by
 have hl:listed.getD i false=false:=by
  have h':i<listed.size:=by omega
  simp [h']at hu⊢;exact hu
 refine Qjf (i:=i) (by simp [hF,hl]) ?_ (fun j hj=>?_) _ List.nodup_range (List.mem_range.2 hi)
 ·have h':i<listed.size:=by omega
  simp [h']
 ·rw [Go.getD_set_ne false (Ne.symm hj)]
theorem Qf1{F:Nat->Bool}{listed:Array Bool}(h:left ops F listed=0){i:Nat}(hi:i<ops.size)(hF:F i=true):listed.getD i false=true:=by
 have:=List.countP_eq_zero.1 h i (List.mem_range.2 hi)
 simpa [hF] using this
theorem Qta{F:Nat->Bool}{listed:Array Bool}(hs:listed.size=ops.size)(h0:left ops F listed=0)(hg:∀i,i<ops.size->listed.getD i false=true->F i=true):listed=((List.range ops.size).map F).toArray:=by
 apply Array.ext
 ·simp [hs]
 ·intro i h1 h2
  have hi:i<ops.size:=by omega
  have e:listed.getD i false=listed[i]:=by simp [h1]
  have er:((List.range ops.size).map F).toArray[i]=F i:=by simp
  rw [er];cases hF:F i
  ·cases hl:listed[i]
   ·rfl
   ·have:=hg i hi (by rw [e,hl])
    rw [hF]at this;cases this
  ·rw [<-e];exact Qf1 h0 hi hF
theorem Qnu{F:Nat->Bool}(hok:frontOk md ops F=true){listed:Array Bool}(hs:listed.size=ops.size)(h:0<left ops F listed):Region.ready md ops listed≠[]:=by
 have hex:∃i,i<ops.size/\F i=true/\listed.getD i false=false:=by
  obtain⟨i,hi,hp⟩:=List.countP_pos_iff.1 h;simp only [Bool.and_eq_true,Bool.not_eq_true']at hp;exact⟨i,List.mem_range.1 hi,hp.1,hp.2⟩
 have key:∀n,∀i,i<=n->i<ops.size->F i=true->listed.getD i false=false->∃j,j∈Region.ready md ops listed:=by
  intro n
  induction n with
  |zero=>
   intro i hn hi hF hl;refine⟨i,mem_ready.2 ⟨?_,ops[i],Array.getElem?_eq_getElem hi,fun e he hb=>?_⟩⟩
   ·have h':i<listed.size:=by omega
    simp [h']at hl⊢;exact hl
   ·have:=((Qeo hok (Array.getElem?_eq_getElem hi) hF).2.1 e he hb).1
    omega
  |succ n ih=>
   intro i hn hi hF hl;by_cases hall:∀e∈(ops[i]).after,Region.binds md e=true->listed.getD e.on false=true
   ·refine⟨i,mem_ready.2 ⟨?_,ops[i],Array.getElem?_eq_getElem hi,hall⟩⟩
    have h':i<listed.size:=(by omega);simp [h']at hl⊢;exact hl
   ·obtain⟨e,he⟩:=Classical.not_forall.1 hall
    obtain⟨he,h2⟩:=Classical.not_imp.1 he;obtain⟨hb,h3⟩:=Classical.not_imp.1 h2;obtain⟨h4,h5⟩:=(Qeo hok (Array.getElem?_eq_getElem hi) hF).2.1 e he hb;exact ih e.on (by omega) (by omega) h5 (by simpa using h3)
 obtain⟨i,hi,hF,hl⟩:=hex;obtain⟨j,hj⟩:=key i i (Nat.le_refl _) hi hF hl;intro h0;rw [h0]at hj;cases hj
def StepOk(P:Program)(md:Region.Mode)(ops:Array Oper)(Q:Exit->Act->World->Prop)(S:Nat->Bool)(A:(Nat->Value)->Act)(G:Nat->Value->World->Prop)(B:World->Prop)(i:Nat)(o:Oper):Prop:=
 ∀(f:Nat->Value) (w:World),B w->(∀e∈o.after,Region.binds md e=true->G e.on (f (dstOf ops e.on)) w)->
  ∀K:Act->World->Prop,(∀v w',G i v w'->Below w.heap.size w w'->B w'->(S i=true->∃g,v=.pointer (some ⟨g,0,none⟩)/\w.heap.size<=g)->K ((A f).put o.dst v) w')->
   if Region.wanted o (yielded ops (A f).tmps)=true then Oper.wp P o (A f) w K Q else K ((A f).put o.dst undef) w
theorem Qh1(F S:Nat->Bool)(A:(Nat->Value)->Act)(G:Nat->Value->World->Prop)(B:World->Prop)(hok:frontOk md ops F=true)
 (hput:∀i o d f v,ops[i]? =some o->F i=true->o.dst=some d->(A f).put (some d) v=A (upd f d v))
 (mono:∀i v w w',G i v w->Below w.heap.size w w'->G i v w')
 (ptr:∀i v w,S i=true->G i v w->∃g,v=.pointer (some ⟨g,0,none⟩)/\g<w.heap.size)
 (step:∀i o,ops[i]? =some o->F i=true->StepOk P md ops Q S A G B i o)(r:Nat)
 (fin:∀f w,B w->(∀i,i<ops.size->F i=true->G i (f (dstOf ops i)) w)->(∀i j,i<ops.size->j<ops.size->F i=true->F j=true->S i=true->S j=true->i≠j->f (dstOf ops i)≠f (dstOf ops j))->wpAny P md ops Q r ((List.range ops.size).map F).toArray (A f) w):
 ∀(n:Nat) (listed:Array Bool) (f:Nat->Value) (w:World),left ops F listed=n->Front md ops F S G B listed f w->wpAny P md ops Q (n+r) listed (A f) w
 |0,listed,f,w,hn,h=>by
  rw [Nat.zero_add,Qta h.size hn (fun i hi hl=>(h.got i hi hl).1)];exact fin f w h.base (fun i hi hF=>(h.got i hi (Qf1 hn hi hF)).2) fun i j hi hj hFi hFj hSi hSj hne=>h.apart i j hi hj (Qf1 hn hi hFi) (Qf1 hn hj hFj) hSi hSj hne
 |n+1,listed,f,w,hn,h=>by
  rw [show n+1+r=(n+r)+1 from by omega];refine⟨fun h0=>absurd h0 (Qnu hok h.size (by omega)),fun i hi=>?_⟩;obtain⟨hu,o,ho,hdep⟩:=mem_ready.1 hi;have hlt:i<ops.size:=(Array.getElem?_eq_some_iff.1 ho).1;have hF:F i=true:=by
   cases hF:F i
   ·obtain⟨j,hj,hp⟩:=List.countP_pos_iff.1 (show 0<left ops F listed by omega)
    simp only [Bool.and_eq_true,Bool.not_eq_true']at hp;have:=Qgu h.shut 9 i o ho hdep (Qnt hok ho hF (List.mem_range.1 hj) hp.1);rw [hp.2]at this;cases this
   ·rfl
  obtain⟨⟨d,hd⟩,hin,hother⟩:=Qeo hok ho hF;refine wpOp_step ho fun K hK=>?_
  refine step i o ho hF f w h.base (fun e he hb=>?_) K fun v w' hG hbl hB hS=>?_
  ·obtain⟨h1,h2⟩:=hin e he hb
   exact(h.got e.on (by omega) (hdep e he hb)).2
  ·rw [hd,hput i o d f v ho hF hd]
   have hdi:=Qje ho hd;have new:∀k,k<ops.size->k≠i->(listed.setIfInBounds i true).getD k false=true->listed.getD k false=true/\upd f d v (dstOf ops k)=f (dstOf ops k):=fun k hk hki hlk=>by
    rw [Go.getD_set_ne false (Ne.symm hki)]at hlk;refine⟨hlk,?_⟩;have hne:dstOf ops k≠d:=(by rw [<-hdi];exact hother k hk (h.got k hk hlk).1 hki);unfold upd;rw [if_neg hne]
   have old:∀k,k<ops.size->k≠i->listed.getD k false=true->S k=true->S i=true->f (dstOf ops k)≠v:=fun k hk hki hlk hSk hSi he=>by
    obtain⟨g,hg,hgl⟩:=ptr k _ w hSk (h.got k hk hlk).2;obtain⟨g',hg',hgl'⟩:=hS hSi;rw [hg,hg']at he;injection he with he;injection he with he;injection he with he;omega
   have own:upd f d v (dstOf ops i)=v:=(by rw [hdi];unfold upd;rw [if_pos rfl]);refine hK _ _ (Qh1 F S A G B hok hput mono ptr step r fin n _ _ _ (by have:=Qs9 (F:=F) h.size hlt hF hu;omega) ⟨by simp [h.size],fun j hj hl=>?_,hB,fun j oj hoj hl e he hb=>?_,fun j k hj hk hlj hlk hSj hSk hjk=>?_⟩)
   ·by_cases hji:j=i
    ·subst hji
     exact⟨hF,by rw [hdi];unfold upd;rw [if_pos rfl];exact hG⟩
    ·rw [Go.getD_set_ne false (Ne.symm hji)]at hl
     obtain⟨hFj,hGj⟩:=h.got j hj hl;refine⟨hFj,?_⟩;have hne:dstOf ops j≠d:=(by rw [<-hdi];exact hother j hj hFj hji);unfold upd;rw [if_neg hne];exact mono _ _ _ _ hGj hbl
   ·by_cases hji:j=i
    ·subst hji
     obtain rfl:o=oj:=Option.some.inj (ho.symm.trans hoj);exact getD_set_true (hdep e he hb)
    ·rw [Go.getD_set_ne false (Ne.symm hji)]at hl
     exact getD_set_true (h.shut j oj hoj hl e he hb)
   ·by_cases hji:j=i
    ·subst hji
     obtain⟨hlk',e2⟩:=new k hk (Ne.symm hjk) hlk;rw [own,e2];exact(old k hk (Ne.symm hjk) hlk' hSk hSj).symm
    ·obtain⟨hlj',e1⟩:=new j hj hji hlj
     by_cases hki:k=i
     ·subst hki
      rw [own,e1];exact old j hj hji hlj' hSj hSk
     ·obtain⟨hlk',e2⟩:=new k hk hki hlk
      rw [e1,e2];exact h.apart j k hj hk hlj' hlk' hSj hSk hjk
theorem Qvt{F:Nat->Bool}:left ops F (Array.replicate ops.size false)=(List.range ops.size).countP F:=by
 unfold left;refine List.countP_congr fun i hi=>?_
 simp [List.mem_range.1 hi]
theorem Qh2{id:Nat}(hm:P.follows .mixedOrders=true)(F S:Nat->Bool)(A:(Nat->Value)->Act)(G:Nat->Value->World->Prop)(B:World->Prop)(f0:Nat->Value){a:Act}{w:World}(ha:a=A f0)(hB:B w.drew)(hok:frontOk .any ops F=true)
 (hput:∀i o d f v,ops[i]? =some o->F i=true->o.dst=some d->(A f).put (some d) v=A (upd f d v))
 (mono:∀i v w w',G i v w->Below w.heap.size w w'->G i v w')
 (ptr:∀i v w,S i=true->G i v w->∃g,v=.pointer (some ⟨g,0,none⟩)/\g<w.heap.size)
 (step:∀i o,ops[i]? =some o->F i=true->StepOk P .any ops Q S A G B i o)(r:Nat)(hr:(List.range ops.size).countP F+r=ops.size)
 (fin:∀f w,B w->(∀i,i<ops.size->F i=true->G i (f (dstOf ops i)) w)->(∀i j,i<ops.size->j<ops.size->F i=true->F j=true->S i=true->S j=true->i≠j->f (dstOf ops i)≠f (dstOf ops j))->wpAny P .any ops Q r ((List.range ops.size).map F).toArray (A f) w):
 (Code.region id ops true).wp P Q a w:=by
 refine wp_region_any hm ?_;subst ha;have h:=Qh1 F S A G B hok hput mono ptr step r fin _ (Array.replicate ops.size false) f0 w.drew Qvt ⟨by simp,fun i hi hl=>?_,hB,fun i o ho hl=>?_,fun i j hi hj hl=>?_⟩
 ·rw [hr]at h
  exact h
 ·simp [hi]at hl
 ·simp [(Array.getElem?_eq_some_iff.1 ho).1]at hl
 ·simp [hi]at hl
theorem Qg8(f:Nat->Value)(k:Nat):∀(D:List Nat) (t:Array Value),(D.foldl (fun t d=>t.setIfInBounds d (f d)) t)[k]? =if k∈D/\k<t.size then some (f k)else t[k]?
 |[],t=>by simp
 |d::D,t=>by
  rw [List.foldl_cons,Qg8 f k D,Array.size_setIfInBounds];by_cases hk:k<t.size
  ·by_cases hd:k=d
   ·subst hd
    by_cases hm:k∈D<;>simp [hk,hm]
   ·by_cases hm:k∈D
    ·simp [hk,hm]
    ·simp [hm,hd,Array.getElem?_setIfInBounds_ne (Ne.symm hd)]
  ·rw [if_neg (fun h=>hk h.2),if_neg (fun h=>hk h.2)]
   rw [Array.getElem?_eq_none (by simp;omega),Array.getElem?_eq_none (by omega)]
theorem Qh3(f:Nat->Value):∀(D:List Nat) (t:Array Value),(D.foldl (fun t d=>t.setIfInBounds d (f d)) t).size=t.size
 |[],t=>rfl
 |d::D,t=>by rw [List.foldl_cons,Qh3 f D,Array.size_setIfInBounds]
def frontAct(a0:Act)(D:List Nat)(f:Nat->Value):Act:= {a0 with tmps:=D.foldl (fun t d=>t.setIfInBounds d (f d)) a0.tmps}
theorem Qkf(a0:Act)(D:List Nat):a0=frontAct a0 D (fun d=>a0.tmps.getD d undef):=by
 obtain⟨t,ds⟩:=a0;unfold frontAct
 congr 1
 apply Array.ext_getElem?;intro k;rw [Qg8];split
 ·rename_i h
  simp [h.2]
 ·rfl
theorem Qlv(a0:Act)(D:List Nat)(f:Nat->Value)(d:Nat)(v:Value)(hd:d∈D):(frontAct a0 D f).put (some d) v=frontAct a0 D (upd f d v):=by
 have h:(D.foldl (fun t d=>t.setIfInBounds d (f d)) a0.tmps).setIfInBounds d v=D.foldl (fun t e=>t.setIfInBounds e (upd f d v e)) a0.tmps:=by
  apply Array.ext_getElem?;intro k;rw [Qg8];by_cases hk:k<a0.tmps.size
  ·by_cases hkd:k=d
   ·subst hkd
    have e:(D.foldl (fun t d=>t.setIfInBounds d (f d)) a0.tmps).size=a0.tmps.size:=Qh3 _ _ _;rw [if_pos ⟨hd,hk⟩,Array.getElem?_setIfInBounds_self_of_lt (by rw [e];exact hk)];unfold upd;rw [if_pos rfl]
   ·rw [Array.getElem?_setIfInBounds_ne (Ne.symm hkd),Qg8]
    unfold upd;rw [if_neg hkd]
  ·rw [if_neg (fun h=>hk h.2),Array.getElem?_eq_none (by rw [Array.size_setIfInBounds,Qh3];omega),Array.getElem?_eq_none (by omega)]
 unfold frontAct Act.put;show({tmps:=_,defers:=_}:Act)= {tmps:=_,defers:=_};exact congrArg (fun t=>({tmps:=t,defers:=a0.defers}:Act)) h
theorem Qgy{id:Nat}(hm:P.follows .mixedOrders=true)(F S:Nat->Bool)(D:List Nat)(G:Nat->Value->World->Prop)(B:World->Prop){a:Act}{w:World}(hB:B w.drew)(hok:frontOk .any ops F=true)
 (hD:(List.range ops.size).all (fun i=>!F i||D.contains (dstOf ops i))=true)
 (mono:∀i v w w',G i v w->Below w.heap.size w w'->G i v w')
 (ptr:∀i v w,S i=true->G i v w->∃g,v=.pointer (some ⟨g,0,none⟩)/\g<w.heap.size)
 (step:∀i o,ops[i]? =some o->F i=true->StepOk P .any ops Q S (frontAct a D) G B i o)(r:Nat)(hr:(List.range ops.size).countP F+r=ops.size)(l:Array Bool)(hl:((List.range ops.size).map F).toArray=l)
 (fin:∀f w,B w->(∀i,i<ops.size->F i=true->G i (f (dstOf ops i)) w)->(∀i j,i<ops.size->j<ops.size->F i=true->F j=true->S i=true->S j=true->i≠j->f (dstOf ops i)≠f (dstOf ops j))->wpAny P .any ops Q r l (frontAct a D f) w):
 (Code.region id ops true).wp P Q a w:=
 Qh2 hm F S (frontAct a D) G B _ (Qkf a D) hB hok (fun i o d f v ho hF hd=>Qlv a D f d v (by
  have:=List.all_eq_true.1 hD i (List.mem_range.2 (Array.getElem?_eq_some_iff.1 ho).1);rw [Qje ho hd]at this
  simpa [hF] using this)) mono ptr step r hr (hl▸fin)
end
theorem zf1{α β:Type}{f:β->α->β}{a:α}{l:List α}{b:β}:(a::l).foldl f b=l.foldl f (f b a):=rfl
theorem zf2{α β:Type}{f:β->α->β}{b:β}:([]:List α).foldl f b=b:=rfl
theorem zf3{α:Type}(l:List α)(i:Nat)(a:α):l.toArray.setIfInBounds i a=(l.set i a).toArray:=by simp
theorem zf4{α:Type}{l:List α}{x a:α}{n:Nat}:(x::l).set (n+1) a=x::l.set n a:=rfl
theorem zf5{α:Type}{l:List α}{x a:α}:(x::l).set 0 a=a::l:=rfl
theorem zf6{α:Type}{l:List α}{x d:α}{n:Nat}:(x::l).getD (n+1) d=l.getD n d:=by simp
theorem zf7{α:Type}{l:List α}{x d:α}:(x::l).getD 0 d=x:=rfl
theorem cs15{i:Nat}(h:i<15):i=0\/i=1\/i=2\/i=3\/i=4\/i=5\/i=6\/i=7\/i=8\/i=9\/i=10\/i=11\/i=12\/i=13\/i=14:=by omega
theorem cs44{i:Nat}(h:i<44):i=0\/i=1\/i=2\/i=3\/i=4\/i=5\/i=6\/i=7\/i=8\/i=9\/i=10\/i=11\/i=12\/i=13\/i=14\/i=15\/i=16\/i=17\/i=18\/i=19\/i=20\/i=21\/i=22\/i=23\/i=24\/i=25\/i=26\/i=27\/i=28\/i=29\/i=30\/i=31\/i=32\/i=33\/i=34\/i=35\/i=36\/i=37\/i=38\/i=39\/i=40\/i=41\/i=42\/i=43:=by omega
inductive Sq where
 |val (v:Value)
 |st (R:World->Value->Prop)
 |blk (B:Nat) (l:List Value) (t:TypeId)
 |any
def Sq.holds:Sq->Value->World->Prop
 | .val v,a,_=>a=v
 | .st R,a,w=> ∀w',Below w.heap.size w w'->R w' a
 | .blk B l t,a,w=> ∃g,a=.pointer (some ⟨g,0,none⟩)/\B<=g/\Cs w g l t
 | .any,_,_=>True
def Sq.isBlk:Sq->Bool
 | .blk _ _ _=>true
 |_=>false
def gOf6(L:List Sq)(i:Nat)(a:Value)(w:World):Prop:=(L.getD i .any).holds a w
def sOf6(L:List Sq)(i:Nat):Bool:=(L.getD i .any).isBlk
theorem Qtb(L:List Sq)(i:Nat)(a:Value)(w w':World)(h:gOf6 L i a w)(hb:Below w.heap.size w w'):gOf6 L i a w':=by
 unfold gOf6 at*
 generalize L.getD i .any=s at*
 cases s with
 |val v=>exact h
 |st R=>exact fun w2 h2=>h w2 (bt hb h2)
 |blk B l t=>
  obtain⟨g,h1,h2,h3⟩:=h;exact⟨g,h1,h2,h3.below hb h3.lt⟩
 |any=>trivial
theorem Qvu(L:List Sq)(i:Nat)(a:Value)(w:World)(hs:sOf6 L i=true)(h:gOf6 L i a w):∃g,a=.pointer (some ⟨g,0,none⟩)/\g<w.heap.size:=by
 unfold gOf6 at h;unfold sOf6 at hs;generalize L.getD i .any=s at*
 cases s with
 |val v=>cases hs
 |st R=>cases hs
 |blk B l t=>
  obtain⟨g,h1,h2,h3⟩:=h;exact⟨g,h1,h3.lt⟩
 |any=>cases hs
theorem at6{L:List Sq}{i:Nat}{s:Sq}(h:L[i]? =some s):L.getD i .any=s:=by rw [List.getD_eq_getElem?_getD,h];rfl
theorem gv6{L:List Sq}{i:Nat}{a:Value}{w:World}(h:L[i]? =some (.val a)):gOf6 L i a w:=by unfold gOf6;rw [at6 h];exact rfl
theorem gs6{L:List Sq}{i:Nat}{a:Value}{w:World}{R:World->Value->Prop}(h:L[i]? =some (.st R))(hr:∀w',Below w.heap.size w w'->R w' a):gOf6 L i a w:=by unfold gOf6;rw [at6 h];exact hr
theorem dv6{L:List Sq}{i:Nat}{a v:Value}{w:World}(h:gOf6 L i a w)(hv:L[i]? =some (.val v)):a=v:=by unfold gOf6 at h;rw [at6 hv]at h;exact h
theorem ds6{L:List Sq}{i:Nat}{a:Value}{w:World}{R:World->Value->Prop}(h:gOf6 L i a w)(hv:L[i]? =some (.st R)):R w a:=by unfold gOf6 at h;rw [at6 hv]at h;exact h w (Below.refl _ _)
theorem nb6{L:List Sq}{i:Nat}{s:Sq}{p:Prop}(hv:L[i]? =some s)(hs:s.isBlk=false):sOf6 L i=true->p:=by
 intro h;unfold sOf6 at h;rw [at6 hv,hs]at h;cases h
section
variable {P:Program} {ops:Array Oper} {Q:Exit->Act->World->Prop}
def Step6(P:Program)(ops:Array Oper)(Q:Exit->Act->World->Prop)(D:List Nat)(L:List Sq)(a:Act)(w0:World)(i:Nat)(o:Oper)(f:Nat->Value)(wx:World):Prop:=
 (∀e∈o.after,Region.binds .any e=true->gOf6 L e.on (f (D.getD e.on 0)) wx)->
  ∀K:Act->World->Prop,(∀v w',gOf6 L i v w'->Below wx.heap.size wx w'->Below w0.heap.size w0 w'->(sOf6 L i=true->∃g,v=.pointer (some ⟨g,0,none⟩)/\wx.heap.size<=g)->K ((frontAct a D f).put o.dst v) w')->
   if Region.wanted o (yielded ops (frontAct a D f).tmps)=true then Oper.wp P o (frontAct a D f) wx K Q else K ((frontAct a D f).put o.dst undef) wx
theorem Qan{id:Nat}(n:Nat)(D:List Nat)(L:List Sq){a:Act}{w:World}(hm:P.follows .mixedOrders=true)(hok:frontOk .any ops (fun i=>decide (i<n))=true)
 (hD:(List.range n).all (fun i=>dstOf ops i==D.getD i 0)=true)(hn:decide (n<=D.length/\n<=ops.size)=true)
 (step:∀(i:Nat),i<n->∀o,ops[i]? =some o->∀(f:Nat->Value) (wx:World),Below w.drew.heap.size w.drew wx->Step6 P ops Q D L a w.drew i o f wx)
 (r:Nat)(hr:(List.range ops.size).countP (fun i=>decide (i<n))+r=ops.size)(l:Array Bool)(hl:((List.range ops.size).map (fun i=>decide (i<n))).toArray=l)
 (fin:∀f wx,Below w.drew.heap.size w.drew wx->(∀i,i<n->gOf6 L i (f (D.getD i 0)) wx)->(∀i j,i<n->j<n->sOf6 L i=true->sOf6 L j=true->i≠j->f (D.getD i 0)≠f (D.getD j 0))->wpAny P .any ops Q r l (frontAct a D f) wx):
 (Code.region id ops true).wp P Q a w:=by
 obtain⟨hn1,hn2⟩:=of_decide_eq_true hn;have hd:∀i,i<n->dstOf ops i=D.getD i 0:=fun i hi=>by simpa using List.all_eq_true.1 hD i (List.mem_range.2 hi)
 refine Qgy hm (fun i=>decide (i<n)) (sOf6 L) D (gOf6 L) (fun wx=>Below w.drew.heap.size w.drew wx) (Below.refl _ _) hok ?_ (Qtb _) (Qvu _) ?_ r hr l hl ?_
 ·refine List.all_eq_true.2 (fun i hi=>?_)
  by_cases h:i<n
  ·rw [hd i h]
   have:D.getD i 0∈D:=by rw [List.getD_eq_getElem?_getD,List.getElem?_eq_getElem (by omega)];exact List.getElem_mem _
   simp [h]
   simpa using this
  ·simp [h]
 ·intro i o ho hF f wx hB hdep K hK
  refine step i (of_decide_eq_true hF) o ho f wx hB (fun e he hb=>?_) K hK;have h1:=hdep e he hb;have h2:e.on<i:=((Qeo hok ho hF).2.1 e he hb).1;rw [hd e.on (by have:=of_decide_eq_true hF;omega)]at h1;exact h1
 ·intro f wx hB hG hne
  refine fin f wx hB (fun i hi=>?_) (fun i j hi hj h1 h2 h3=>?_)
  ·have:=hG i (by omega) (decide_eq_true hi)
   rwa [hd i hi]at this
  ·have:=hne i j (by omega) (by omega) (decide_eq_true hi) (decide_eq_true hj) h1 h2 h3
   rwa [hd i hi,hd j hj]at this
end
end Go.Proofs.YthbhgelncdnmgaaGreatDoor
namespace Go.Proofs.YthbhgelncdnmgaaGreatDoor
open Go.Proofs.Tryz
open Lib (hid)
open Nat (zero_le lt_or_eq_of_le le_of_lt_succ not_lt_zero)
open Go.RowKit
theorem Qfe(L:Nat)(h:1<=L):Sz 1 L:=⟨by show(limbs 1).length<=L;rw [Qay];exact h,by show(limbs 1).length<=L;rw [Qay];exact h⟩
theorem Qlw(d:WD)(x:List Value)(w:World)(V:Bool)(hT:Tab w)(hx:WRd w x d)(sd:SzK d)(H:Hid (tv (chk 1 d)=V)):Calls prog 158 #[.agg x.toArray] w (RetV w (.bool V)):=by
 have sde:=sd.sze;obtain⟨A,n,c,B,m,e,P,p,r,Q,q,s,rfl,h1,h2,h3,h4⟩:=hx.shape;obtain⟨z1,z2,_,_,_,_⟩:=sd.open;obtain⟨hb0,k1⟩:=blk1 w [.bool d.neg,.slice A n c,.slice B m e,.int .i64 d.c,.bool d.i,.int .u64 d.s,.slice P p r,.slice Q q s] 32;have l1:=h1.len;have l2:=h2.len;have SD:Hid (SzE d):=hid sde;have HL:Hid (n<=1000000/\m<=1000000):=hid ⟨by omega,by omega⟩;show Calls _ _ #[.agg #[.bool d.neg,.slice A n c,.slice B m e,.int .i64 d.c,.bool d.i,.int .u64 d.s,.slice P p r,.slice Q q s]] _ _;obtain⟨V1,hV1⟩:∃V1,tv d.onlyQ=V1:=⟨_,rfl⟩;obtain⟨V2,hV2⟩:∃V2,vld d.neg d.ln d.ld=V2:=⟨_,rfl⟩;have HE:Hid ((V1 && V2)=V):=hid (by
  rw [<-H.out,<-hV1,<-hV2];show _=tv (d.onlyQ/\vld d.neg d.ln d.ld=true);rw [Qjc]
  congr 1
  cases vld d.neg d.ln d.ld
  ·rw [Qag (by decide)]
  ·rw [Qbf rfl])
 have HC1:=hid (Qbl d _ _ V1 (hx.keep hb0) sde (hid hV1));have HV2:Hid (vld d.neg d.ln d.ld=V2):=hid hV2;have HH:=hid (And.intro (h1.below hb0) (And.intro (h2.below hb0) (hT.below hb0)));clear hV1 hV2 H hx h1 h2 h3 h4 l1 l2 z1 z2 hT;go_enter func158,ntmps158;go_wp2_with fail
 generalize (w.alloc (W8 (.bool d.neg) (.slice A n c) (.slice B m e) (.int .i64 d.c) (.bool d.i) (.int .u64 d.s) (.slice P p r) (.slice Q q s)))=W0 at*
 refine HC1.out.mono ?_;rintro e w1 ⟨rfl,hb1⟩;replace hb0:=bt hb0 hb1;replace k1:=k1.below hb1 k1.lt;cases V1
 ·replace HE:Hid (false=V):=HE
  clear hb1;go_wp2_with fail
  have:=HE.out;subst this;go_ret;exact⟨rfl,hb0⟩
 ·replace HE:Hid (V2=V):=HE
  obtain⟨a0,a1,a2,a3,a4,a5,a6,a7⟩:=k1.c8;have HC2:=hid (Qc4 d.neg A B n c m _ d.ln d.ld w1 V2 (HH.out.2.2.below hb1) (HH.out.1.below hb1) (HH.out.2.1.below hb1) (by have:=HL.out;omega) (by have:=HL.out;omega) HV2);clear hb1;go_wp2_with fail
  refine HC2.out.mono ?_;rintro e w2 ⟨rfl,hb1⟩;replace hb0:=bt hb0 hb1;go_wp2_with fail
  have:=HE.out;subst this;go_ret;exact⟨rfl,hb0⟩
theorem Qh4(d:WD)(x:List Value)(w:World)(V:Bool)(hT:Tab w)(hx:WRd w x d)(sd:SzK d)(H:Hid (tv (chk 3 d)=V)):Calls prog 130 #[.agg x.toArray] w (RetV w (.bool V)):=by
 have sde:=sd.sze;obtain⟨A,n,c,B,m,e,P,p,r,Q,q,s,rfl,h1,h2,h3,h4⟩:=hx.shape;obtain⟨z1,z2,_,_,_,_⟩:=sd.open;obtain⟨hb0,k1⟩:=blk1 w [.bool d.neg,.slice A n c,.slice B m e,.int .i64 d.c,.bool d.i,.int .u64 d.s,.slice P p r,.slice Q q s] 32;have l1:=h1.len;have l2:=h2.len;have SD:Hid (SzE d):=hid sde;have HL:Hid (n<=1000000/\m<=1000000):=hid ⟨by omega,by omega⟩;show Calls _ _ #[.agg #[.bool d.neg,.slice A n c,.slice B m e,.int .i64 d.c,.bool d.i,.int .u64 d.s,.slice P p r,.slice Q q s]] _ _;have hHI:∀wx,Below w.heap.size w wx->Inp wx (.agg #[.bool d.neg,.slice A n c,.slice B m e]) (fq d.neg d.ln d.ld) 1000000:=fun wx hb=>(Qcn ⟨A,n,c,B,m,e,rfl,h1.below hb,h2.below hb⟩ (by omega) (by omega) (by decide) (by decide)).1
 have HSQ:Hid (Sz (fq d.neg d.ln d.ld) 1000000):=hid (Qsx (neg:=d.neg) h1 h2 (by omega) (by omega) (by decide));have HE:Hid (tv (d.onlyQ/\vld d.neg d.ln d.ld=true/\d.neg=false/\d.q<=1)=V):=H;obtain⟨V1,hV1⟩:∃V1,tv d.onlyQ=V1:=⟨_,rfl⟩;obtain⟨V2,hV2⟩:∃V2,vld d.neg d.ln d.ld=V2:=⟨_,rfl⟩;obtain⟨V3,hV3⟩:∃V3,cmpQ (fq d.neg d.ln d.ld) 1=V3:=⟨_,rfl⟩;have HV1:=hid hV1;have HV2:=hid hV2;have HV3:=hid hV3;clear l1 l2 z1 z2;go_enter func130,ntmps130;go_wp2_with fail
 have hHI':∀wx,Below (w.alloc (W8 (.bool d.neg) (.slice A n c) (.slice B m e) (.int .i64 d.c) (.bool d.i) (.int .u64 d.s) (.slice P p r) (.slice Q q s))).drew.heap.size (w.alloc (W8 (.bool d.neg) (.slice A n c) (.slice B m e) (.int .i64 d.c) (.bool d.i) (.int .u64 d.s) (.slice P p r) (.slice Q q s))).drew wx->Inp wx (.agg #[.bool d.neg,.slice A n c,.slice B m e]) (fq d.neg d.ln d.ld) 1000000:=fun wx hb=>hHI wx (bt hb0.drew hb)
 clear hHI;have hx0:=(hx.keep hb0).keep (Below.refl _ _).drew;have j1:=(h1.below hb0).drew;have j2:=(h2.below hb0).drew;have jT:=(hT.below hb0).drew;generalize (w.alloc (W8 (.bool d.neg) (.slice A n c) (.slice B m e) (.int .i64 d.c) (.bool d.i) (.int .u64 d.s) (.slice P p r) (.slice Q q s)))=W0 at*
 have HB:=hid hb0.drew;have HC:=hid k1.drew;have HX:=hid hx0;have H1:=hid j1;have H2:=hid j2;have HT:=hid jT;have HI:=hid hHI';clear hx0 j1 j2 jT hHI' hb0 k1 hx h1 h2 h3 h4 hT sde sd H;cases V1
 ·have hV:false=V:=by rw [<-HE.out];exact(Qag (fun h=>by rw [Qbf h.1]at hV1;cases hV1)).symm
  subst hV;clear HE hV1 hV2 hV3;generalize d.neg=ng at*;generalize d.c=k at*;generalize d.i=iv at*;generalize d.s=u at*;generalize d.ln=ln at*;generalize d.ld=ld at*
  refine Qan 20 (3::4::5::6::7::8::9::10::11::12::13::14::15::16::17::18::19::20::21::22::[]) (Sq.val (.agg #[.bool ng,.slice A n c,.slice B m e,.int .i64 k,.bool iv,.int .u64 u,.slice P p r,.slice Q q s])::Sq.val (.bool false)::Sq.val (.bool false)::Sq.val (undef)::Sq.val (undef)::Sq.val (undef)::Sq.val (.bool false)::Sq.val (.bool false)::Sq.val (undef)::Sq.val (undef)::Sq.val (undef)::Sq.val (undef)::Sq.val (.bool false)::Sq.val (.bool false)::Sq.val (undef)::Sq.val (undef)::Sq.val (undef)::Sq.val (undef)::Sq.val (undef)::Sq.val (.bool false)::[]) (by kernel_rfl) (by kernel_rfl) (by kernel_rfl) (by kernel_rfl) ?step 1 (by kernel_rfl) _ rfl ?fin
  case step=>
   intro i hi oi ho f wx hB hdep K hK;simp only [frontAct,zf1,zf2,zf3,zf4,zf5]at hK⊢;obtain⟨x0,x1,x2,x3,x4,x5,x6,x7⟩:=(HC.out.below hB HC.out.lt).c8;iterate 20 rcases lt_or_eq_of_le (le_of_lt_succ hi)with hi|rfl
   exact absurd hi (not_lt_zero _);all_goals
    obtain rfl:=Option.some.inj ho;clear ho;simp only [Act.put,zf3,zf4,zf5]at hK
   rotate_left
   ·simp [gOf6,Sq.holds,Region.binds]at hdep
    simp only [hdep]at hK⊢;go_simp;refine(Qbl d _ wx false (HX.out.keep hB) SD.out HV1).mono ?_;rintro e0 w' ⟨rfl,hb⟩;exact hK (.bool false) w' (gv6 rfl) hb (bt hB hb) (nb6 rfl rfl)
   rotate_left 18
   all_goals simp [gOf6,Sq.holds,Region.binds]at hdep
   all_goals try simp only [hdep]at hK⊢
   all_goals go_simp
   all_goals exact hK _ wx (gv6 rfl) (Below.refl _ _) hB (nb6 rfl rfl)
  case fin=>
   intro f wx hB hG hne;have eL:=dv6 (a:=f 22) (hG 19 (by decide)) rfl;clear hG hne;simp only [frontAct,zf1,zf2,zf3,zf4,zf5];generalize f 22=fL at*;subst eL;have HEND:=hid (bt HB.out hB);clear hB;refine wpAny_ready (rs:=[20]) (by kernel_rfl) (by simp) ?_;refine AllReady.cons rfl (fun K hK=>?_) AllReady.nil;have HQ:=hid hK;clear hK;go_simp;refine HQ.out _ _ ?_;clear HQ K;refine wpAny_done (by kernel_rfl) ?_ _;go_wp2_with fail
   go_ret;exact⟨rfl,HEND.out⟩
 ·cases V2
  ·have hV:false=V:=by rw [<-HE.out];exact(Qag (fun h=>by rw [h.2.1]at hV2;cases hV2)).symm
   subst hV;clear HE hV1 hV2 hV3;generalize d.neg=ng at*;generalize d.c=k at*;generalize d.i=iv at*;generalize d.s=u at*;generalize d.ln=ln at*;generalize d.ld=ld at*
   refine Qan 20 (3::4::5::6::7::8::9::10::11::12::13::14::15::16::17::18::19::20::21::22::[]) (Sq.val (.agg #[.bool ng,.slice A n c,.slice B m e,.int .i64 k,.bool iv,.int .u64 u,.slice P p r,.slice Q q s])::Sq.val (.bool true)::Sq.val (.bool true)::Sq.val (.pointer (some ⟨w.heap.size,0,none⟩))::Sq.val (.agg #[.bool ng,.slice A n c,.slice B m e])::Sq.val (.bool false)::Sq.val (.bool false)::Sq.val (.bool false)::Sq.val (undef)::Sq.val (undef)::Sq.val (undef)::Sq.val (undef)::Sq.val (.bool false)::Sq.val (.bool false)::Sq.val (undef)::Sq.val (undef)::Sq.val (undef)::Sq.val (undef)::Sq.val (undef)::Sq.val (.bool false)::[]) (by kernel_rfl) (by kernel_rfl) (by kernel_rfl) (by kernel_rfl) ?step 1 (by kernel_rfl) _ rfl ?fin
   case step=>
    intro i hi oi ho f wx hB hdep K hK;simp only [frontAct,zf1,zf2,zf3,zf4,zf5]at hK⊢;obtain⟨x0,x1,x2,x3,x4,x5,x6,x7⟩:=(HC.out.below hB HC.out.lt).c8;iterate 20 rcases lt_or_eq_of_le (le_of_lt_succ hi)with hi|rfl
    exact absurd hi (not_lt_zero _);all_goals
     obtain rfl:=Option.some.inj ho;clear ho;simp only [Act.put,zf3,zf4,zf5]at hK
    rotate_left
    ·simp [gOf6,Sq.holds,Region.binds]at hdep
     simp only [hdep]at hK⊢;go_simp;refine(Qbl d _ wx true (HX.out.keep hB) SD.out HV1).mono ?_;rintro e0 w' ⟨rfl,hb⟩;exact hK (.bool true) w' (gv6 rfl) hb (bt hB hb) (nb6 rfl rfl)
    rotate_left 3
    ·simp [gOf6,Sq.holds,Region.binds]at hdep
     simp only [hdep]at hK⊢;go_simp;refine(Qc4 ng A B n c m e ln ld wx false (HT.out.below hB) (H1.out.below hB) (H2.out.below hB) (by have:=HL.out;omega) (by have:=HL.out;omega) HV2).mono ?_;rintro e0 w' ⟨rfl,hb⟩;exact hK (.bool false) w' (gv6 rfl) hb (bt hB hb) (nb6 rfl rfl)
    rotate_left 14
    all_goals simp [gOf6,Sq.holds,Region.binds]at hdep
    all_goals try simp only [hdep]at hK⊢
    all_goals go_simp
    all_goals exact hK _ wx (gv6 rfl) (Below.refl _ _) hB (nb6 rfl rfl)
   case fin=>
    intro f wx hB hG hne;have eL:=dv6 (a:=f 22) (hG 19 (by decide)) rfl;clear hG hne;simp only [frontAct,zf1,zf2,zf3,zf4,zf5];generalize f 22=fL at*;subst eL;have HEND:=hid (bt HB.out hB);clear hB;refine wpAny_ready (rs:=[20]) (by kernel_rfl) (by simp) ?_;refine AllReady.cons rfl (fun K hK=>?_) AllReady.nil;have HQ:=hid hK;clear hK;go_simp;refine HQ.out _ _ ?_;clear HQ K;refine wpAny_done (by kernel_rfl) ?_ _;go_wp2_with fail
    go_ret;exact⟨rfl,HEND.out⟩
  ·by_cases hn:d.neg=false
   ·obtain⟨b,hb⟩:∃b,decide (V3<=0)=b:=⟨_,rfl⟩
    have hV:b=V:=by
     rw [<-HE.out,<-hb,Bool.eq_iff_iff,Qce,decide_eq_true_eq,<-hV3,Qsk];exact⟨fun h=>⟨Qce.1 hV1,hV2,hn,h⟩,fun h=>h.2.2.2⟩
    subst hV;have HVD:=hid hb;clear HE hV1 hV2 hV3 hb;generalize d.neg=ng at*
    subst hn;generalize d.c=k at*;generalize d.i=iv at*;generalize d.s=u at*;generalize d.ln=ln at*;generalize d.ld=ld at*
    refine Qan 20 (3::4::5::6::7::8::9::10::11::12::13::14::15::16::17::18::19::20::21::22::[]) (Sq.val (.agg #[.bool false,.slice A n c,.slice B m e,.int .i64 k,.bool iv,.int .u64 u,.slice P p r,.slice Q q s])::Sq.val (.bool true)::Sq.val (.bool true)::Sq.val (.pointer (some ⟨w.heap.size,0,none⟩))::Sq.val (.agg #[.bool false,.slice A n c,.slice B m e])::Sq.val (.bool true)::Sq.val (.bool true)::Sq.val (.bool true)::Sq.val (.pointer (some ⟨w.heap.size,0,none⟩))::Sq.val (.pointer (some ⟨w.heap.size,0,none⟩))::Sq.val (.bool false)::Sq.val (.bool true)::Sq.val (.bool true)::Sq.val (.bool true)::Sq.val (.pointer (some ⟨w.heap.size,0,none⟩))::Sq.val (.agg #[.bool false,.slice A n c,.slice B m e])::Sq.st (fun w a=>RatQ w a 1)::Sq.val (.int .i64 V3)::Sq.val (.bool b)::Sq.val (.bool b)::[]) (by kernel_rfl) (by kernel_rfl) (by kernel_rfl) (by kernel_rfl) ?step 1 (by kernel_rfl) _ rfl ?fin
    case step=>
     intro i hi oi ho f wx hB hdep K hK;simp only [frontAct,zf1,zf2,zf3,zf4,zf5]at hK⊢;obtain⟨x0,x1,x2,x3,x4,x5,x6,x7⟩:=(HC.out.below hB HC.out.lt).c8;iterate 20 rcases lt_or_eq_of_le (le_of_lt_succ hi)with hi|rfl
     exact absurd hi (not_lt_zero _);all_goals
      obtain rfl:=Option.some.inj ho;clear ho;simp only [Act.put,zf3,zf4,zf5]at hK
     rotate_left
     ·simp [gOf6,Sq.holds,Region.binds]at hdep
      simp only [hdep]at hK⊢;go_simp;refine(Qbl d _ wx true (HX.out.keep hB) SD.out HV1).mono ?_;rintro e0 w' ⟨rfl,hb⟩;exact hK (.bool true) w' (gv6 rfl) hb (bt hB hb) (nb6 rfl rfl)
     rotate_left 3
     ·simp [gOf6,Sq.holds,Region.binds]at hdep
      simp only [hdep]at hK⊢;go_simp;refine(Qc4 false A B n c m e ln ld wx true (HT.out.below hB) (H1.out.below hB) (H2.out.below hB) (by have:=HL.out;omega) (by have:=HL.out;omega) HV2).mono ?_;rintro e0 w' ⟨rfl,hb⟩;exact hK (.bool true) w' (gv6 rfl) hb (bt hB hb) (nb6 rfl rfl)
     rotate_left 10
     ·simp [gOf6,Sq.holds,Region.binds]at hdep
      simp only [hdep]at hK⊢;go_simp;refine(Qbr wx).mono ?_;rintro e0 w' ⟨val,rfl,hr,hb⟩;exact hK val w' (gs6 rfl (fun w2 h2=>hr.below h2)) hb (bt hB hb) (nb6 rfl rfl)
     ·have e16:=dv6 (hdep ⟨13,.guard⟩ (by simp) rfl) rfl
      have e18:=dv6 (hdep ⟨15,.data⟩ (by simp) rfl) rfl;have e19:=ds6 (hdep ⟨16,.data⟩ (by simp) rfl) rfl;simp only [zf6,zf7]at e16 e18 e19;generalize f 16=f16 at*;subst e16;generalize f 18=f18 at*;subst e18;replace e19:=(show RatQ wx (f 19) 1 from e19);generalize f 19=f19 at*
      go_simp;refine(Qe9 _ _ (fq false ln ld) 1 1000000 V3 wx (HT.out.below hB) (HI.out wx hB) (e19.inp (Qfe _ (by decide)) (by decide)) HSQ.out (Qfe _ (by decide)) HV3).mono ?_;rintro e0 w' ⟨rfl,hb⟩;exact hK (.int .i64 V3) w' (gv6 rfl) hb (bt hB hb) (nb6 rfl rfl)
     have hvd:=HVD.out;rotate_left 2
     all_goals simp [gOf6,Sq.holds,Region.binds]at hdep
     all_goals try simp only [hdep]at hK⊢
     all_goals go_simp
     all_goals exact hK _ wx (gv6 rfl) (Below.refl _ _) hB (nb6 rfl rfl)
    case fin=>
     intro f wx hB hG hne;have eL:=dv6 (a:=f 22) (hG 19 (by decide)) rfl;clear hG hne;simp only [frontAct,zf1,zf2,zf3,zf4,zf5];generalize f 22=fL at*;subst eL;have HEND:=hid (bt HB.out hB);clear hB;refine wpAny_ready (rs:=[20]) (by kernel_rfl) (by simp) ?_;refine AllReady.cons rfl (fun K hK=>?_) AllReady.nil;have HQ:=hid hK;clear hK;go_simp;refine HQ.out _ _ ?_;clear HQ K;refine wpAny_done (by kernel_rfl) ?_ _;go_wp2_with fail
     go_ret;exact⟨rfl,HEND.out⟩
   ·have hV:false=V:=by rw [<-HE.out];exact(Qag (fun h=>hn h.2.2.1)).symm
    subst hV;replace hn:d.neg=true:=(by simpa using hn);clear HE hV1 hV2 hV3;generalize d.neg=ng at*
    subst hn;generalize d.c=k at*;generalize d.i=iv at*;generalize d.s=u at*;generalize d.ln=ln at*;generalize d.ld=ld at*
    refine Qan 20 (3::4::5::6::7::8::9::10::11::12::13::14::15::16::17::18::19::20::21::22::[]) (Sq.val (.agg #[.bool true,.slice A n c,.slice B m e,.int .i64 k,.bool iv,.int .u64 u,.slice P p r,.slice Q q s])::Sq.val (.bool true)::Sq.val (.bool true)::Sq.val (.pointer (some ⟨w.heap.size,0,none⟩))::Sq.val (.agg #[.bool true,.slice A n c,.slice B m e])::Sq.val (.bool true)::Sq.val (.bool true)::Sq.val (.bool true)::Sq.val (.pointer (some ⟨w.heap.size,0,none⟩))::Sq.val (.pointer (some ⟨w.heap.size,0,none⟩))::Sq.val (.bool true)::Sq.val (.bool false)::Sq.val (.bool false)::Sq.val (.bool false)::Sq.val (undef)::Sq.val (undef)::Sq.val (undef)::Sq.val (undef)::Sq.val (undef)::Sq.val (.bool false)::[]) (by kernel_rfl) (by kernel_rfl) (by kernel_rfl) (by kernel_rfl) ?step 1 (by kernel_rfl) _ rfl ?fin
    case step=>
     intro i hi oi ho f wx hB hdep K hK;simp only [frontAct,zf1,zf2,zf3,zf4,zf5]at hK⊢;obtain⟨x0,x1,x2,x3,x4,x5,x6,x7⟩:=(HC.out.below hB HC.out.lt).c8;iterate 20 rcases lt_or_eq_of_le (le_of_lt_succ hi)with hi|rfl
     exact absurd hi (not_lt_zero _);all_goals
      obtain rfl:=Option.some.inj ho;clear ho;simp only [Act.put,zf3,zf4,zf5]at hK
     rotate_left
     ·simp [gOf6,Sq.holds,Region.binds]at hdep
      simp only [hdep]at hK⊢;go_simp;refine(Qbl d _ wx true (HX.out.keep hB) SD.out HV1).mono ?_;rintro e0 w' ⟨rfl,hb⟩;exact hK (.bool true) w' (gv6 rfl) hb (bt hB hb) (nb6 rfl rfl)
     rotate_left 3
     ·simp [gOf6,Sq.holds,Region.binds]at hdep
      simp only [hdep]at hK⊢;go_simp;refine(Qc4 true A B n c m e ln ld wx true (HT.out.below hB) (H1.out.below hB) (H2.out.below hB) (by have:=HL.out;omega) (by have:=HL.out;omega) HV2).mono ?_;rintro e0 w' ⟨rfl,hb⟩;exact hK (.bool true) w' (gv6 rfl) hb (bt hB hb) (nb6 rfl rfl)
     rotate_left 14
     all_goals simp [gOf6,Sq.holds,Region.binds]at hdep
     all_goals try simp only [hdep]at hK⊢
     all_goals go_simp
     all_goals exact hK _ wx (gv6 rfl) (Below.refl _ _) hB (nb6 rfl rfl)
    case fin=>
     intro f wx hB hG hne;have eL:=dv6 (a:=f 22) (hG 19 (by decide)) rfl;clear hG hne;simp only [frontAct,zf1,zf2,zf3,zf4,zf5];generalize f 22=fL at*;subst eL;have HEND:=hid (bt HB.out hB);clear hB;refine wpAny_ready (rs:=[20]) (by kernel_rfl) (by simp) ?_;refine AllReady.cons rfl (fun K hK=>?_) AllReady.nil;have HQ:=hid hK;clear hK;go_simp;refine HQ.out _ _ ?_;clear HQ K;refine wpAny_done (by kernel_rfl) ?_ _;go_wp2_with fail
     go_ret;exact⟨rfl,HEND.out⟩
theorem Qvv{neg:Bool}{ln ld:List Nat}(h:vld neg ln ld=true)(hx:Lim ln)(hy:Lim ld):decide ((fq neg ln ld).num<0)=neg/\limbs (fq neg ln ld).num.natAbs=ln/\dl (fq neg ln ld).den=ld:=by
 obtain⟨e1,e2,e3,e4,e5⟩:=Qfw hx hy h;unfold fq;rw [if_pos h,(Qc5 e3 e4).1,(Qc5 e3 e4).2,Qe6,Qjz,e5];exact⟨rfl,e1.symm,e2.symm⟩
theorem Qlx{w:World}{v:Value}{neg:Bool}{ln ld:List Nat}(h:Fld w v neg ln ld)(hv:vld neg ln ld=true):Fld w v (decide ((fq neg ln ld).num<0)) (limbs (fq neg ln ld).num.natAbs) (dl (fq neg ln ld).den):=by
 obtain⟨A,n,c,B,m,e,_,h1,h2⟩:=h.out;obtain⟨e1,e2,e3⟩:=Qvv hv h1.lim h2.lim;rw [e1,e2,e3];exact h
theorem Qtc{w:World}{q0 q1 q2:Value}{q:Rat}(h:Fld w (.agg #[q0,q1,q2]) (decide (q.num<0)) (limbs q.num.natAbs) (dl q.den)):WRd w [q0,q1,q2,.int .i64 0,.bool false,.int .u64 0,.slice none 0 0,.slice none 0 0] (dOf (svQ q)):=
 WRd.close h (PRaw.nil ..) (WPs.nil ..)
theorem Qvw{w0 w W:World}{g:Nat}{q0 q1 q2:Value}{q:Rat}(h:RatQ w (.agg #[q0,q1,q2]) q)(hb:Below w0.heap.size w0 w)(hg:w0.heap.size<=g)(hc:Cs w g [.bool false,.slice none 0 0,.slice none 0 0,.int .i64 0,.bool false,.int .u64 0,.slice none 0 0,.slice none 0 0] 32)
 (hW:W=((((((((w.setCell ⟨g,0,none⟩ q0).setCell ⟨g,1,none⟩ q1).setCell ⟨g,2,none⟩ q2).setCell ⟨g,3,none⟩ (.int .i64 0)).setCell ⟨g,4,none⟩ (.bool false)).setCell ⟨g,5,none⟩ (.int .u64 0)).setCell ⟨g,6,none⟩ (.slice none 0 0)).setCell ⟨g,7,none⟩ (.slice none 0 0))):
 RetX 0 w0 (dOf (svQ q)) (.returned (.agg #[q0,q1,q2,.int .i64 0,.bool false,.int .u64 0,.slice none 0 0,.slice none 0 0])) W:=by
 subst hW;exact Qb8 (Qtc (h.fld.wch (Wch.s8 (S:=w.heap.size) hc Qbi (zero_le _) hc.lt _ _ _ _ _ _ _ _))) (Qam hb hg _ _ _ _ _ _ _ _)
theorem Qqc(w:World):Calls prog 161 #[] w (RetX 0 w (dOf (svQ 1))):=by
 obtain⟨hb0,c1⟩:=blk1 w [.bool false,.slice none 0 0,.slice none 0 0,.int .i64 0,.bool false,.int .u64 0,.slice none 0 0,.slice none 0 0] 32;go_enter func161,ntmps161;go_wp2_with fail
 refine(Qbr _).mono ?_;rintro e w1 ⟨v,rfl,hr,hb1⟩;obtain⟨A,n,c,B,m,k,rfl,h1,h2⟩:=hr;have HR:Hid (RatQ w1 _ 1):=hid ⟨A,n,c,B,m,k,rfl,h1,h2⟩;clear h1 h2;replace hb0:=bt hb0 hb1;replace c1:=c1.below hb1 c1.lt;obtain⟨g0,g1,g2,g3,g4,g5,g6,g7⟩:=c1.f8;obtain⟨h0,h1,h2,h3,h4,h5,h6,h7⟩:=c1.c8;go_wp2_with fail
 refine Qak (l:=[.bool (decide ((1:Rat).num<0)),.slice A n c,.slice B m k,.int .i64 0,.bool false,.int .u64 0,.slice none 0 0,.slice none 0 0]) results161 underlying32 (by kernel_rfl) rfl (Qaj c1 rfl _ _ _ _ _ _ _ _) rfl ?_;exact Qvw HR.out hb0 (by omega) c1 rfl
theorem Qqd(w:World):Calls prog 128 #[] w (RetX 0 w (dOf (svQ 1))):=by
 obtain⟨hb0,c1⟩:=blk1 w [.bool false,.slice none 0 0,.slice none 0 0,.int .i64 0,.bool false,.int .u64 0,.slice none 0 0,.slice none 0 0] 32;go_enter func128,ntmps128;go_wp2_with fail
 refine(Qbr _).mono ?_;rintro e w1 ⟨v,rfl,hr,hb1⟩;obtain⟨A,n,c,B,m,k,rfl,h1,h2⟩:=hr;have HR:Hid (RatQ w1 _ 1):=hid ⟨A,n,c,B,m,k,rfl,h1,h2⟩;clear h1 h2;replace hb0:=bt hb0 hb1;replace c1:=c1.below hb1 c1.lt;obtain⟨g0,g1,g2,g3,g4,g5,g6,g7⟩:=c1.f8;obtain⟨h0,h1,h2,h3,h4,h5,h6,h7⟩:=c1.c8;go_wp2_with fail
 refine Qak (l:=[.bool (decide ((1:Rat).num<0)),.slice A n c,.slice B m k,.int .i64 0,.bool false,.int .u64 0,.slice none 0 0,.slice none 0 0]) results128 underlying32 (by kernel_rfl) rfl (Qaj c1 rfl _ _ _ _ _ _ _ _) rfl ?_;exact Qvw HR.out hb0 (by omega) c1 rfl
theorem Qqe(d d2:WD)(x y:List Value)(w:World)(hT:Tab w)(hx:WRd w x d)(hy:WRd w y d2)(sd:SzK d)(sd2:SzK d2):Calls prog 162 #[.agg x.toArray,.agg y.toArray] w (RetX 0 w (dOf (svQ (d.q+d2.q)))):=by
 obtain⟨A,n,c,B,m,e,P,p,r,Q,q,s,rfl,h1,h2,_,_⟩:=hx.shape;obtain⟨A',n',c',B',m',e',P',p',r',Q',q',s',rfl,h1',h2',_,_⟩:=hy.shape;show Calls _ _ #[.agg #[.bool d.neg,.slice A n c,.slice B m e,.int .i64 d.c,.bool d.i,.int .u64 d.s,.slice P p r,.slice Q q s],.agg #[.bool d2.neg,.slice A' n' c',.slice B' m' e',.int .i64 d2.c,.bool d2.i,.int .u64 d2.s,.slice P' p' r',.slice Q' q' s']] _ _;obtain⟨hb0,c1,c2,c3⟩:=blk3 w [.bool d.neg,.slice A n c,.slice B m e,.int .i64 d.c,.bool d.i,.int .u64 d.s,.slice P p r,.slice Q q s] [.bool d2.neg,.slice A' n' c',.slice B' m' e',.int .i64 d2.c,.bool d2.i,.int .u64 d2.s,.slice P' p' r',.slice Q' q' s'] [.bool false,.slice none 0 0,.slice none 0 0,.int .i64 0,.bool false,.int .u64 0,.slice none 0 0,.slice none 0 0] 32 32 32;obtain⟨z1,z2,_,_,_,_⟩:=sd.open;obtain⟨z1',z2',_,_,_,_⟩:=sd2.open;have I1:=Qcn (v:=.agg #[.bool d.neg,.slice A n c,.slice B m e]) (neg:=d.neg) ⟨A,n,c,B,m,e,rfl,h1.below hb0,h2.below hb0⟩ z1 z2 (by decide) (by decide);have I2:=Qcn (v:=.agg #[.bool d2.neg,.slice A' n' c',.slice B' m' e']) (neg:=d2.neg) ⟨A',n',c',B',m',e',rfl,h1'.below hb0,h2'.below hb0⟩ z1' z2' (by decide) (by decide);have HC:=hid (Qr5 _ _ (fq d.neg d.ln d.ld) (fq d2.neg d2.ln d2.ld) _ 1000 _ (hT.below hb0) I1.1 I2.1 (I1.2.2.mono (by decide)) (I2.2.2.mono (by decide)) rfl);clear I1 I2 z1 z2 z1' z2' h1 h2 h1' h2' hx hy sd sd2;go_enter func162,ntmps162;go_wp2_with fail
 generalize (((w.alloc (W8 (.bool d.neg) (.slice A n c) (.slice B m e) (.int .i64 d.c) (.bool d.i) (.int .u64 d.s) (.slice P p r) (.slice Q q s))).alloc (W8 (.bool d2.neg) (.slice A' n' c') (.slice B' m' e') (.int .i64 d2.c) (.bool d2.i) (.int .u64 d2.s) (.slice P' p' r') (.slice Q' q' s'))).alloc (W8t 0 false))=W0 at*
 refine HC.out.mono ?_;rintro e1 w1 ⟨v,rfl,hr,hb1⟩;obtain⟨A3,n3,c3',B3,m3,k3,rfl,h1,h2⟩:=hr;have HR:Hid (RatQ w1 _ (d.q+d2.q)):=hid ⟨A3,n3,c3',B3,m3,k3,rfl,h1,h2⟩;clear h1 h2 HC;replace hb0:=bt hb0 hb1;replace c3:=c3.below hb1 c3.lt;obtain⟨g0,g1,g2,g3,g4,g5,g6,g7⟩:=c3.f8;obtain⟨h0,h1,h2,h3,h4,h5,h6,h7⟩:=c3.c8;go_wp2_with fail
 refine Qak (l:=[.bool (decide ((fq d.neg d.ln d.ld+fq d2.neg d2.ln d2.ld).num<0)),.slice A3 n3 c3',.slice B3 m3 k3,.int .i64 0,.bool false,.int .u64 0,.slice none 0 0,.slice none 0 0]) results162 underlying32 (by kernel_rfl) rfl (Qaj c3 rfl _ _ _ _ _ _ _ _) rfl ?_;exact Qvw HR.out hb0 (by omega) c3 rfl
theorem Qe2(d d2:WD)(x y:List Value)(w:World)(hT:Tab w)(hx:WRd w x d)(hy:WRd w y d2)(sd:SzK d)(sd2:SzK d2):Calls prog 132 #[.agg x.toArray,.agg y.toArray] w (RetX 0 w (dOf (svQ (d.q*d2.q)))):=by
 obtain⟨A,n,c,B,m,e,P,p,r,Q,q,s,rfl,h1,h2,_,_⟩:=hx.shape;obtain⟨A',n',c',B',m',e',P',p',r',Q',q',s',rfl,h1',h2',_,_⟩:=hy.shape;show Calls _ _ #[.agg #[.bool d.neg,.slice A n c,.slice B m e,.int .i64 d.c,.bool d.i,.int .u64 d.s,.slice P p r,.slice Q q s],.agg #[.bool d2.neg,.slice A' n' c',.slice B' m' e',.int .i64 d2.c,.bool d2.i,.int .u64 d2.s,.slice P' p' r',.slice Q' q' s']] _ _;obtain⟨hb0,c1,c2,c3⟩:=blk3 w [.bool d.neg,.slice A n c,.slice B m e,.int .i64 d.c,.bool d.i,.int .u64 d.s,.slice P p r,.slice Q q s] [.bool d2.neg,.slice A' n' c',.slice B' m' e',.int .i64 d2.c,.bool d2.i,.int .u64 d2.s,.slice P' p' r',.slice Q' q' s'] [.bool false,.slice none 0 0,.slice none 0 0,.int .i64 0,.bool false,.int .u64 0,.slice none 0 0,.slice none 0 0] 32 32 32;obtain⟨z1,z2,_,_,_,_⟩:=sd.open;obtain⟨z1',z2',_,_,_,_⟩:=sd2.open;have I1:=Qcn (v:=.agg #[.bool d.neg,.slice A n c,.slice B m e]) (neg:=d.neg) ⟨A,n,c,B,m,e,rfl,h1.below hb0,h2.below hb0⟩ z1 z2 (by decide) (by decide);have I2:=Qcn (v:=.agg #[.bool d2.neg,.slice A' n' c',.slice B' m' e']) (neg:=d2.neg) ⟨A',n',c',B',m',e',rfl,h1'.below hb0,h2'.below hb0⟩ z1' z2' (by decide) (by decide);have HC:=hid (Qse _ _ (fq d.neg d.ln d.ld) (fq d2.neg d2.ln d2.ld) _ 1000 _ (hT.below hb0) I1.1 I2.1 (I1.2.2.mono (by decide)) (I2.2.2.mono (by decide)) rfl);clear I1 I2 z1 z2 z1' z2' h1 h2 h1' h2' hx hy sd sd2;go_enter func132,ntmps132;go_wp2_with fail
 generalize (((w.alloc (W8 (.bool d.neg) (.slice A n c) (.slice B m e) (.int .i64 d.c) (.bool d.i) (.int .u64 d.s) (.slice P p r) (.slice Q q s))).alloc (W8 (.bool d2.neg) (.slice A' n' c') (.slice B' m' e') (.int .i64 d2.c) (.bool d2.i) (.int .u64 d2.s) (.slice P' p' r') (.slice Q' q' s'))).alloc (W8t 0 false))=W0 at*
 refine HC.out.mono ?_;rintro e1 w1 ⟨v,rfl,hr,hb1⟩;obtain⟨A3,n3,c3',B3,m3,k3,rfl,h1,h2⟩:=hr;have HR:Hid (RatQ w1 _ (d.q*d2.q)):=hid ⟨A3,n3,c3',B3,m3,k3,rfl,h1,h2⟩;clear h1 h2 HC;replace hb0:=bt hb0 hb1;replace c3:=c3.below hb1 c3.lt;obtain⟨g0,g1,g2,g3,g4,g5,g6,g7⟩:=c3.f8;obtain⟨h0,h1,h2,h3,h4,h5,h6,h7⟩:=c3.c8;go_wp2_with fail
 refine Qak (l:=[.bool (decide ((fq d.neg d.ln d.ld*fq d2.neg d2.ln d2.ld).num<0)),.slice A3 n3 c3',.slice B3 m3 k3,.int .i64 0,.bool false,.int .u64 0,.slice none 0 0,.slice none 0 0]) results132 underlying32 (by kernel_rfl) rfl (Qaj c3 rfl _ _ _ _ _ _ _ _) rfl ?_;exact Qvw HR.out hb0 (by omega) c3 rfl
theorem Qjg(d d2:WD)(x y:List Value)(w:World)(hT:Tab w)(V:Bool)(hx:WRd w x d)(hy:WRd w y d2)(sd:SzK d)(sd2:SzK d2)(H:Hid (decide (d2.q<d.q)=V)):Calls prog 134 #[.agg x.toArray,.agg y.toArray] w (RetV w (.bool V)):=by
 obtain⟨A,n,c,B,m,e,P,p,r,Q,q,s,rfl,h1,h2,_,_⟩:=hx.shape;obtain⟨A',n',c',B',m',e',P',p',r',Q',q',s',rfl,h1',h2',_,_⟩:=hy.shape;show Calls _ _ #[.agg #[.bool d.neg,.slice A n c,.slice B m e,.int .i64 d.c,.bool d.i,.int .u64 d.s,.slice P p r,.slice Q q s],.agg #[.bool d2.neg,.slice A' n' c',.slice B' m' e',.int .i64 d2.c,.bool d2.i,.int .u64 d2.s,.slice P' p' r',.slice Q' q' s']] _ _;obtain⟨hb0,c1,c2⟩:=blk2 w [.bool d.neg,.slice A n c,.slice B m e,.int .i64 d.c,.bool d.i,.int .u64 d.s,.slice P p r,.slice Q q s] [.bool d2.neg,.slice A' n' c',.slice B' m' e',.int .i64 d2.c,.bool d2.i,.int .u64 d2.s,.slice P' p' r',.slice Q' q' s'] 32 32;obtain⟨z1,z2,_,_,_,_⟩:=sd.open;obtain⟨z1',z2',_,_,_,_⟩:=sd2.open;have I1:=Qcn (v:=.agg #[.bool d.neg,.slice A n c,.slice B m e]) (neg:=d.neg) ⟨A,n,c,B,m,e,rfl,h1.below hb0,h2.below hb0⟩ z1 z2 (by decide) (by decide);have I2:=Qcn (v:=.agg #[.bool d2.neg,.slice A' n' c',.slice B' m' e']) (neg:=d2.neg) ⟨A',n',c',B',m',e',rfl,h1'.below hb0,h2'.below hb0⟩ z1' z2' (by decide) (by decide);obtain⟨V3,hV3⟩:∃V3,cmpQ (fq d.neg d.ln d.ld) (fq d2.neg d2.ln d2.ld)=V3:=⟨_,rfl⟩;have HC:=hid (Qe9 _ _ (fq d.neg d.ln d.ld) (fq d2.neg d2.ln d2.ld) 1000 V3 _ (hT.below hb0) I1.1 I2.1 (I1.2.2.mono (by decide)) (I2.2.2.mono (by decide)) (hid hV3));have HD:Hid (decide (0<V3)=V):=hid (by
  rw [<-H.out,Bool.eq_iff_iff,decide_eq_true_eq,decide_eq_true_eq,<-Rat.not_le,<-Qsk,show cmpQ d.q d2.q=V3 from hV3];omega)
 clear I1 I2 z1 z2 z1' z2' h1 h2 h1' h2' hx hy sd sd2 H hV3;go_enter func134,ntmps134;go_wp2_with fail
 refine HC.out.mono ?_;rintro e1 w1 ⟨rfl,hb1⟩;have hd:=HD.out;go_wp2_with fail
 go_ret;exact⟨rfl,bt hb0 hb1⟩
def SlN(l:List Nat)(w:World)(v:Value):Prop:=∃A n c,v=.slice A n c/\Num w l A n c
theorem SlN.below{l:List Nat}{w w':World}{v:Value}(h:SlN l w v)(hb:Below w.heap.size w w'):SlN l w' v:=by
 obtain⟨A,n,c,e,h⟩:=h;exact⟨A,n,c,e,h.below hb⟩
theorem Qkg(A:Option Addr)(n c:Nat)(l:List Nat)(w:World)(h:Num w l A n c)(hn:n<=1000000):Calls prog 176 #[.slice A n c] w (fun e w'=> ∃val,e=.returned val/\SlN l w' val/\Below w.heap.size w w'):=
 (Qdk A n c l w h (by omega)).mono fun e w' ⟨A1,n1,c1,e1,h1,h2⟩=>⟨_,e1,⟨A1,n1,c1,rfl,h1.num⟩,h2⟩
def QW(ln ld:List Nat)(w:World)(v:Value):Prop:=∃A n c B m e,v=.agg #[.bool false,.slice A n c,.slice B m e,.int .i64 0,.bool false,.int .u64 0,.slice none 0 0,.slice none 0 0]/\Num w ln A n c/\Num w ld B m e
theorem blk_d{neg:Bool}{A B P Q:Option Addr}{n c m e p r q s:Nat}{k u:Int}{i:Bool}:WBlk [.bool neg,.slice A n c,.slice B m e,.int .i64 k,.bool i,.int .u64 u,.slice P p r,.slice Q q s]:=Qkd ⟨_,_,_,_,_,_,_,_,_,_,_,_,_,_,_,_,rfl⟩
noncomputable def gcC(d d2:WD):SV:=if d.q<d2.q then svQ d2.q else svQ d.q
theorem Qgz(d d2:WD)(x y:List Value)(w:World)(hT:Tab w)(hx:WRd w x d)(hy:WRd w y d2)(sd:SzK d)(sd2:SzK d2)(hk:chk 3 d)(hk2:chk 3 d2):Calls prog 131 #[.agg x.toArray,.agg y.toArray] w (RetX 0 w (dOf (gcC d d2))):=by
 obtain⟨A,n,c,B,m,e,P,p,r,Q,q,s,rfl,h1,h2,_,_⟩:=hx.shape;obtain⟨A',n',c',B',m',e',P',p',r',Q',q',s',rfl,h1',h2',_,_⟩:=hy.shape;show Calls _ _ #[.agg #[.bool d.neg,.slice A n c,.slice B m e,.int .i64 d.c,.bool d.i,.int .u64 d.s,.slice P p r,.slice Q q s],.agg #[.bool d2.neg,.slice A' n' c',.slice B' m' e',.int .i64 d2.c,.bool d2.i,.int .u64 d2.s,.slice P' p' r',.slice Q' q' s']] _ _;obtain⟨hb0,c1,c2,c3⟩:=blk3 w [.bool d.neg,.slice A n c,.slice B m e,.int .i64 d.c,.bool d.i,.int .u64 d.s,.slice P p r,.slice Q q s] [.bool d2.neg,.slice A' n' c',.slice B' m' e',.int .i64 d2.c,.bool d2.i,.int .u64 d2.s,.slice P' p' r',.slice Q' q' s'] [.bool false,.slice none 0 0,.slice none 0 0,.int .i64 0,.bool false,.int .u64 0,.slice none 0 0,.slice none 0 0] 32 32 32;obtain⟨V,hV⟩:∃V,decide (d.q<d2.q)=V:=⟨_,rfl⟩;have HR:Hid (gcC d d2=cond V (svQ d2.q) (svQ d.q)):=hid (by
  unfold gcC;rw [<-hV];by_cases h:d.q<d2.q
  ·rw [if_pos h,decide_eq_true h];rfl
  ·rw [if_neg h,decide_eq_false h];rfl)
 have HC:=hid (Qjg d2 d _ _ _ (hT.below hb0) V (hy.keep hb0) (hx.keep hb0) sd2 sd (hid hV));obtain⟨z1,z2,_,_,_,_⟩:=sd.open;obtain⟨z1',z2',_,_,_,_⟩:=sd2.open;have HLN1:Hid (n<=1000000/\m<=1000000):=hid ⟨by have:=h1.len;omega,by have:=h2.len;omega⟩;have HLN2:Hid (n'<=1000000/\m'<=1000000):=hid ⟨by have:=h1'.len;omega,by have:=h2'.len;omega⟩;have HCN1:Hid (∀(w:World) (v:Value),Fld w v false d.ln d.ld->Fld w v (decide (d.q.num<0)) (limbs d.q.num.natAbs) (dl d.q.den)):=hid (fun w v h=>by
  have hv:=hk.2.1;have h3:=hk.2.2.1;have h':Fld w v d.neg d.ln d.ld:=by rw [h3];exact h
  exact Qlx h' hv)
 have HCN2:Hid (∀(w:World) (v:Value),Fld w v false d2.ln d2.ld->Fld w v (decide (d2.q.num<0)) (limbs d2.q.num.natAbs) (dl d2.q.den)):=hid (fun w v h=>by
  have hv:=hk2.2.1;have h3:=hk2.2.2.1;have h':Fld w v d2.neg d2.ln d2.ld:=by rw [h3];exact h
  exact Qlx h' hv)
 have HN1:=hid (h1.below hb0);have HD1:=hid (h2.below hb0);have HN2:=hid (h1'.below hb0);have HD2:=hid (h2'.below hb0);clear hx hy hV h1 h2 h1' h2' z1 z2 z1' z2' sd sd2 hk hk2 hT;go_enter func131,ntmps131;go_wp2_with fail
 generalize (((w.alloc (W8 (.bool d.neg) (.slice A n c) (.slice B m e) (.int .i64 d.c) (.bool d.i) (.int .u64 d.s) (.slice P p r) (.slice Q q s))).alloc (W8 (.bool d2.neg) (.slice A' n' c') (.slice B' m' e') (.int .i64 d2.c) (.bool d2.i) (.int .u64 d2.s) (.slice P' p' r') (.slice Q' q' s'))).alloc (W8t 0 false))=W0 at*
 refine HC.out.mono ?_;rintro e0 w1 ⟨rfl,hb1⟩;have HN1:=hid (HN1.out.below hb1);have HD1:=hid (HD1.out.below hb1);have HN2:=hid (HN2.out.below hb1);have HD2:=hid (HD2.out.below hb1);replace hb0:=bt hb0 hb1;replace c1:=c1.below hb1 c1.lt;replace c2:=c2.below hb1 c2.lt;replace c3:=c3.below hb1 c3.lt;clear hb1 HC;obtain⟨a0,a1,a2,a3,a4,a5,a6,a7⟩:=c1.c8;obtain⟨b0,b1,b2,b3,b4,b5,b6,b7⟩:=c2.c8;obtain⟨f0,f1,f2,f3,f4,f5,f6,f7⟩:=c1.f8;cases V
 ·go_wp2_with fail
  clear a0 a1 a2 a3 a4 a5 a6 a7 b0 b1 b2 b3 b4 b5 b6 b7 f0 f1 f2 f3 f4 f5 f6 f7;obtain⟨w1x,hw1x⟩:∃W,W=w1:=⟨_,rfl⟩;subst hw1x;have HB:=hid hb0.drew;have K3:=hid c3.drew;have KX:=hid (show ∀wx,Below w1x.drew.heap.size w1x.drew wx->wx.cell? ⟨w.heap.size,1,none⟩=some (.slice A n c)/\wx.cell? ⟨w.heap.size,2,none⟩=some (.slice B m e)from fun wx hB=>⟨(c1.drew.below hB c1.lt).cell rfl,(c1.drew.below hB c1.lt).cell rfl⟩);have HN:=hid (HN1.out.drew);have HD:=hid (HD1.out.drew);have HLN:=HLN1;have HCN:=HCN1;have HR:Hid (gcC d d2=svQ d.q):=HR;refine Qan 10 (9::10::11::12::13::14::15::16::17::18::[]) (Sq.val (.pointer (some ⟨w.heap.size,0,none⟩))::Sq.val (.pointer (some ⟨w.heap.size,1,none⟩))::Sq.val (.slice A n c)::Sq.st (fun w a=>SlN d.ln w a)::Sq.val (.pointer (some ⟨w.heap.size,0,none⟩))::Sq.val (.pointer (some ⟨w.heap.size,2,none⟩))::Sq.val (.slice B m e)::Sq.st (fun w a=>SlN d.ld w a)::Sq.st (fun w a=>Fld w a false d.ln d.ld)::Sq.st (fun w a=>QW d.ln d.ld w a)::[]) (by kernel_rfl) (by kernel_rfl) (by kernel_rfl) (by kernel_rfl) ?step 1 (by kernel_rfl) _ rfl ?fin
  case step=>
   intro i hi oi ho f wx hB hdep K hK;simp only [frontAct,zf1,zf2,zf3,zf4,zf5]at hK⊢;obtain⟨x0,x1⟩:=KX.out wx hB;iterate 10 rcases lt_or_eq_of_le (le_of_lt_succ hi)with hi|rfl
   exact absurd hi (not_lt_zero _);all_goals
    obtain rfl:=Option.some.inj ho;clear ho;simp only [Act.put,zf3,zf4,zf5]at hK
   rotate_left 3
   ·simp [gOf6,Sq.holds,Region.binds]at hdep
    simp only [hdep]at hK⊢;go_simp;refine(Qkg _ _ _ d.ln wx (HN.out.below hB) HLN.out.1).mono ?_;rintro e0 w' ⟨val,rfl,hr,hb⟩;exact hK val w' (gs6 rfl (fun w2 h2=>hr.below h2)) hb (bt hB hb) (nb6 rfl rfl)
   rotate_left 3
   ·simp [gOf6,Sq.holds,Region.binds]at hdep
    simp only [hdep]at hK⊢;go_simp;refine(Qkg _ _ _ d.ld wx (HD.out.below hB) HLN.out.2).mono ?_;rintro e0 w' ⟨val,rfl,hr,hb⟩;exact hK val w' (gs6 rfl (fun w2 h2=>hr.below h2)) hb (bt hB hb) (nb6 rfl rfl)
   ·have e12:=ds6 (hdep ⟨3,.data⟩ (by simp) rfl) rfl
    have e16:=ds6 (hdep ⟨7,.data⟩ (by simp) rfl) rfl;replace e12:=(show SlN d.ln wx (f 12)from e12);generalize f 12=f12 at*
    replace e16:=(show SlN d.ld wx (f 16)from e16);generalize f 16=f16 at*
    obtain⟨A8,n8,c8,rfl,h8⟩:=e12;obtain⟨A9,n9,c9,rfl,h9⟩:=e16;go_simp;exact hK _ wx (gs6 rfl (fun w2 h2=>⟨A8,n8,c8,A9,n9,c9,rfl,h8.below h2,h9.below h2⟩)) (Below.refl _ _) hB (nb6 rfl rfl)
   ·have e17:=ds6 (hdep ⟨8,.data⟩ (by simp) rfl) rfl
    replace e17:=(show Fld wx (f 17) false d.ln d.ld from e17);generalize f 17=f17 at*
    obtain⟨A8,n8,c8,A9,n9,c9,rfl,h8,h9⟩:=e17.out;go_simp;exact hK _ wx (gs6 rfl (fun w2 h2=>⟨A8,n8,c8,A9,n9,c9,rfl,h8.below h2,h9.below h2⟩)) (Below.refl _ _) hB (nb6 rfl rfl)
   all_goals simp [gOf6,Sq.holds,Region.binds]at hdep
   all_goals try simp only [hdep]at hK⊢
   all_goals go_simp
   all_goals exact hK _ wx (gv6 rfl) (Below.refl _ _) hB (nb6 rfl rfl)
  case fin=>
   intro f wx hB hG hne;have e18:QW d.ln d.ld wx (f 18):=ds6 (hG 9 (by decide)) rfl;clear hG hne;simp only [frontAct,zf1,zf2,zf3,zf4,zf5];generalize f 18=fL at*
   obtain⟨A8,n8,c8,A9,n9,c9,rfl,h8,h9⟩:=e18;have k3:=K3.out.below hB K3.out.lt;have HEND:=hid (bt HB.out hB);have HF:Hid (Fld wx (.agg #[.bool false,.slice A8 n8 c8,.slice A9 n9 c9]) false d.ln d.ld):=hid ⟨A8,n8,c8,A9,n9,c9,rfl,h8,h9⟩;clear hB h8 h9;obtain⟨g0,g1,g2,g3,g4,g5,g6,g7⟩:=k3.f8;obtain⟨b0,b1,b2,b3,b4,b5,b6,b7⟩:=k3.c8;refine wpAny_ready (rs:=[10]) (by kernel_rfl) (by simp) ?_;refine AllReady.cons rfl (fun K hK=>?_) AllReady.nil;have HQ:=hid hK;clear hK;go_simp;clear g0 g1 g2 g3 g4 g5 g6 g7 b0 b1 b2 b3 b4 b5 b6 b7;refine HQ.out _ _ ?_;clear HQ K;refine wpAny_done (by kernel_rfl) ?_ _;go_wp2_with fail
   refine Qak (l:=[.bool false,.slice A8 n8 c8,.slice A9 n9 c9,.int .i64 0,.bool false,.int .u64 0,.slice none 0 0,.slice none 0 0]) results131 underlying32 (by kernel_rfl) rfl (Qaj k3 rfl _ _ _ _ _ _ _ _) rfl ?_;rw [HR.out];exact Qb8 (Qtc (HCN.out _ _ ((HF.out.wch (Wch.s8 (S:=wx.heap.size) k3 Qbi (zero_le _) k3.lt _ _ _ _ _ _ _ _))))) (Qam HEND.out (by omega) _ _ _ _ _ _ _ _)
 ·go_wp2_with fail
  clear a0 a1 a2 a3 a4 a5 a6 a7 b0 b1 b2 b3 b4 b5 b6 b7 f0 f1 f2 f3 f4 f5 f6 f7;have hwch:=Wch.s8 (B:=0) (S:=w1.heap.size) c1 blk_d (zero_le _) c1.lt (.bool d2.neg) (.slice A' n' c') (.slice B' m' e') (.int .i64 d2.c) (.bool d2.i) (.int .u64 d2.s) (.slice P' p' r') (.slice Q' q' s');have k1:=Qaj c1 rfl (.bool d2.neg) (.slice A' n' c') (.slice B' m' e') (.int .i64 d2.c) (.bool d2.i) (.int .u64 d2.s) (.slice P' p' r') (.slice Q' q' s');have k3:=Qbo c3 (show w.heap.size+1+1≠w.heap.size by omega) (.bool d2.neg) (.slice A' n' c') (.slice B' m' e') (.int .i64 d2.c) (.bool d2.i) (.int .u64 d2.s) (.slice P' p' r') (.slice Q' q' s');have hb8:=Qam hb0 (Nat.le_refl _) (.bool d2.neg) (.slice A' n' c') (.slice B' m' e') (.int .i64 d2.c) (.bool d2.i) (.int .u64 d2.s) (.slice P' p' r') (.slice Q' q' s');have HN2:=hid (HN2.out.wch hwch);have HD2:=hid (HD2.out.wch hwch);clear hwch c1 c2 c3 hb0;generalize ((((((((w1.setCell ⟨w.heap.size,0,none⟩ (.bool d2.neg)).setCell ⟨w.heap.size,1,none⟩ (.slice A' n' c')).setCell ⟨w.heap.size,2,none⟩ (.slice B' m' e')).setCell ⟨w.heap.size,3,none⟩ (.int .i64 d2.c)).setCell ⟨w.heap.size,4,none⟩ (.bool d2.i)).setCell ⟨w.heap.size,5,none⟩ (.int .u64 d2.s)).setCell ⟨w.heap.size,6,none⟩ (.slice P' p' r')).setCell ⟨w.heap.size,7,none⟩ (.slice Q' q' s'))=w1x at*
  have HB:=hid hb8.drew;have K3:=hid k3.drew;have KX:=hid (show ∀wx,Below w1x.drew.heap.size w1x.drew wx->wx.cell? ⟨w.heap.size,1,none⟩=some (.slice A' n' c')/\wx.cell? ⟨w.heap.size,2,none⟩=some (.slice B' m' e')from fun wx hB=>⟨(k1.drew.below hB k1.lt).cell rfl,(k1.drew.below hB k1.lt).cell rfl⟩);have HN:=hid (HN2.out.drew);have HD:=hid (HD2.out.drew);have HLN:=HLN2;have HCN:=HCN2;have HR:Hid (gcC d d2=svQ d2.q):=HR;refine Qan 10 (9::10::11::12::13::14::15::16::17::18::[]) (Sq.val (.pointer (some ⟨w.heap.size,0,none⟩))::Sq.val (.pointer (some ⟨w.heap.size,1,none⟩))::Sq.val (.slice A' n' c')::Sq.st (fun w a=>SlN d2.ln w a)::Sq.val (.pointer (some ⟨w.heap.size,0,none⟩))::Sq.val (.pointer (some ⟨w.heap.size,2,none⟩))::Sq.val (.slice B' m' e')::Sq.st (fun w a=>SlN d2.ld w a)::Sq.st (fun w a=>Fld w a false d2.ln d2.ld)::Sq.st (fun w a=>QW d2.ln d2.ld w a)::[]) (by kernel_rfl) (by kernel_rfl) (by kernel_rfl) (by kernel_rfl) ?step 1 (by kernel_rfl) _ rfl ?fin
  case step=>
   intro i hi oi ho f wx hB hdep K hK;simp only [frontAct,zf1,zf2,zf3,zf4,zf5]at hK⊢;obtain⟨x0,x1⟩:=KX.out wx hB;iterate 10 rcases lt_or_eq_of_le (le_of_lt_succ hi)with hi|rfl
   exact absurd hi (not_lt_zero _);all_goals
    obtain rfl:=Option.some.inj ho;clear ho;simp only [Act.put,zf3,zf4,zf5]at hK
   rotate_left 3
   ·simp [gOf6,Sq.holds,Region.binds]at hdep
    simp only [hdep]at hK⊢;go_simp;refine(Qkg _ _ _ d2.ln wx (HN.out.below hB) HLN.out.1).mono ?_;rintro e0 w' ⟨val,rfl,hr,hb⟩;exact hK val w' (gs6 rfl (fun w2 h2=>hr.below h2)) hb (bt hB hb) (nb6 rfl rfl)
   rotate_left 3
   ·simp [gOf6,Sq.holds,Region.binds]at hdep
    simp only [hdep]at hK⊢;go_simp;refine(Qkg _ _ _ d2.ld wx (HD.out.below hB) HLN.out.2).mono ?_;rintro e0 w' ⟨val,rfl,hr,hb⟩;exact hK val w' (gs6 rfl (fun w2 h2=>hr.below h2)) hb (bt hB hb) (nb6 rfl rfl)
   ·have e12:=ds6 (hdep ⟨3,.data⟩ (by simp) rfl) rfl
    have e16:=ds6 (hdep ⟨7,.data⟩ (by simp) rfl) rfl;replace e12:=(show SlN d2.ln wx (f 12)from e12);generalize f 12=f12 at*
    replace e16:=(show SlN d2.ld wx (f 16)from e16);generalize f 16=f16 at*
    obtain⟨A8,n8,c8,rfl,h8⟩:=e12;obtain⟨A9,n9,c9,rfl,h9⟩:=e16;go_simp;exact hK _ wx (gs6 rfl (fun w2 h2=>⟨A8,n8,c8,A9,n9,c9,rfl,h8.below h2,h9.below h2⟩)) (Below.refl _ _) hB (nb6 rfl rfl)
   ·have e17:=ds6 (hdep ⟨8,.data⟩ (by simp) rfl) rfl
    replace e17:=(show Fld wx (f 17) false d2.ln d2.ld from e17);generalize f 17=f17 at*
    obtain⟨A8,n8,c8,A9,n9,c9,rfl,h8,h9⟩:=e17.out;go_simp;exact hK _ wx (gs6 rfl (fun w2 h2=>⟨A8,n8,c8,A9,n9,c9,rfl,h8.below h2,h9.below h2⟩)) (Below.refl _ _) hB (nb6 rfl rfl)
   all_goals simp [gOf6,Sq.holds,Region.binds]at hdep
   all_goals try simp only [hdep]at hK⊢
   all_goals go_simp
   all_goals exact hK _ wx (gv6 rfl) (Below.refl _ _) hB (nb6 rfl rfl)
  case fin=>
   intro f wx hB hG hne;have e18:QW d2.ln d2.ld wx (f 18):=ds6 (hG 9 (by decide)) rfl;clear hG hne;simp only [frontAct,zf1,zf2,zf3,zf4,zf5];generalize f 18=fL at*
   obtain⟨A8,n8,c8,A9,n9,c9,rfl,h8,h9⟩:=e18;have k3:=K3.out.below hB K3.out.lt;have HEND:=hid (bt HB.out hB);have HF:Hid (Fld wx (.agg #[.bool false,.slice A8 n8 c8,.slice A9 n9 c9]) false d2.ln d2.ld):=hid ⟨A8,n8,c8,A9,n9,c9,rfl,h8,h9⟩;clear hB h8 h9;obtain⟨g0,g1,g2,g3,g4,g5,g6,g7⟩:=k3.f8;obtain⟨b0,b1,b2,b3,b4,b5,b6,b7⟩:=k3.c8;refine wpAny_ready (rs:=[10]) (by kernel_rfl) (by simp) ?_;refine AllReady.cons rfl (fun K hK=>?_) AllReady.nil;have HQ:=hid hK;clear hK;go_simp;clear g0 g1 g2 g3 g4 g5 g6 g7 b0 b1 b2 b3 b4 b5 b6 b7;refine HQ.out _ _ ?_;clear HQ K;refine wpAny_done (by kernel_rfl) ?_ _;go_wp2_with fail
   refine Qak (l:=[.bool false,.slice A8 n8 c8,.slice A9 n9 c9,.int .i64 0,.bool false,.int .u64 0,.slice none 0 0,.slice none 0 0]) results131 underlying32 (by kernel_rfl) rfl (Qaj k3 rfl _ _ _ _ _ _ _ _) rfl ?_;rw [HR.out];exact Qb8 (Qtc (HCN.out _ _ ((HF.out.wch (Wch.s8 (S:=wx.heap.size) k3 Qbi (zero_le _) k3.lt _ _ _ _ _ _ _ _))))) (Qam HEND.out (by omega) _ _ _ _ _ _ _ _)
end Go.Proofs.YthbhgelncdnmgaaGreatDoor
