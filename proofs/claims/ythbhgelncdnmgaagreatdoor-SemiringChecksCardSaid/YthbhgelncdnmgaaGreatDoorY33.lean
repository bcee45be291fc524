import Derived.Lib.ItoaNum
import Derived.Test.YthbhgelncdnmgaaGreatDoorY31
import Derived.Test.YthbhgelncdnmgaaGreatDoorY32
import Derived.Deep.LoopGhost
import Derived.Lib.ItoaLen
import Derived.RangeFuncFrom
import Derived.Deep.CutRange
set_option linter.unusedVariables false
set_option linter.unusedSimpArgs false
set_option maxRecDepth 20000
set_option maxHeartbeats 2000000
namespace Go.Proofs.YthbhgelncdnmgaaGreatDoor
open Go.Proofs.Tryz
open Lib (hid)
open Nat (le_refl le_trans)
open Go
def cval:List Nat->Nat
 |[]=>0
 |c::l=>c+1000000000*cval l
theorem Ql1(l:List Nat)(c:Nat):cval (l++[c])=cval l+1000000000^l.length*c:=by
 induction l with
 |nil=>simp [cval]
 |cons x l ih=>simp only [List.cons_append,cval,ih,List.length_cons,Nat.pow_succ];grind
def pad9(c:Nat):List UInt8:=(Lib.decDigits (1000000000+c)).drop 1
theorem Qds(u:Nat):1<=(Lib.decDigits u).length:=by
 unfold Lib.decDigits;split<;>simp
theorem Qdt{u:Nat}(h:¬u<10):Lib.decDigits u=Lib.decDigits (u / 10)++[UInt8.ofNat (48+u%10)]:=by
 conv=>lhs;rw [Lib.decDigits]
 rw [dif_neg h]
theorem Qh9(k:Nat):∀(a c:Nat),0<a->c<10^k->Lib.decDigits (a*10^k+c)=Lib.decDigits a++(Lib.decDigits (10^k+c)).drop 1:=by
 induction k with
 |zero=>
  intro a c ha hc;have:c=0:=by simpa using hc
  subst this;have h1:Lib.decDigits 1=[49]:=by unfold Lib.decDigits;rfl
  simp [h1]
 |succ k ih=>
  intro a c ha hc;have hp:0<10^k:=Nat.pow_pos (by decide);have ha1:10^k<=a*10^k:=Nat.le_mul_of_pos_left _ ha;rw [Nat.pow_succ]at*
  rw [Qdt (u:=a*(10^k*10)+c) (by rw [<-Nat.mul_assoc];omega),Qdt (u:=10^k*10+c) (by omega)];rw [show(a*(10^k*10)+c) / 10=a*10^k+c / 10 from by rw [<-Nat.mul_assoc];omega,show(10^k*10+c) / 10=10^k+c / 10 from by omega,
   show(a*(10^k*10)+c)%10=c%10 from by rw [<-Nat.mul_assoc];omega,show(10^k*10+c)%10=c%10 from by omega,
   ih a (c / 10) ha (by omega),List.drop_append_of_le_length (Qds _),List.append_assoc]
theorem Qto{a c:Nat}(ha:0<a)(hc:c<1000000000):Lib.decDigits (a*1000000000+c)=Lib.decDigits a++pad9 c:=by
 have:=Qh9 9 a c ha (by simpa using hc)
 simpa [pad9] using this
theorem Qqk(l:List Nat)(hl:∀c∈l,c<1000000000)(a:Nat)(ha:0<a):Lib.decDigits (a*1000000000^l.length+cval l)=Lib.decDigits a++(l.reverse.map pad9).flatten:=by
 induction l with
 |nil=>simp [cval]
 |cons c r ih=>
  have h1:=ih (fun x hx=>hl x (List.mem_cons_of_mem _ hx));have h0:a*1000000000^(c::r).length+cval (c::r)=(a*1000000000^r.length+cval r)*1000000000+c:=by
   simp only [List.length_cons,Nat.pow_succ,cval];grind
  have hpos:0<a*1000000000^r.length+cval r:=Nat.add_pos_left (Nat.mul_pos ha (Nat.pow_pos (by decide))) _;rw [h0,Qto hpos (hl c List.mem_cons_self),h1];simp
theorem Qv7{cs:List Nat}{n X:Nat}(hn:cs.length=n+1)(hX:cval cs=X)(hl:∀c∈cs,c<1000000000)(htop:cs.getD n 0≠0):
 Lib.decDigits X=Lib.decDigits (cs.getD n 0)++((cs.take n).reverse.map pad9).flatten:=by
 have hsp:cs=cs.take n++[cs.getD n 0]:=by
  conv=>lhs;rw [<-List.take_of_length_le (Nat.le_of_eq hn),Qfl (by omega)]
 have hlen:(cs.take n).length=n:=by rw [List.length_take];omega
 have:=Qqk (cs.take n) (fun c hc=>hl c (List.mem_of_mem_take hc)) (cs.getD n 0) (Nat.pos_of_ne_zero htop);rw [<-this,hlen,<-hX]
 congr 1
 conv=>lhs;rw [hsp]
 rw [Ql1,hlen]
 grind
end Go.Proofs.YthbhgelncdnmgaaGreatDoor
namespace Go.Proofs.YthbhgelncdnmgaaGreatDoor
open Go.Proofs.Tryz
open Lib (hid)
open Nat (le_refl le_trans)
open Go.RowKit Go.Shelf
attribute [local go_sem] Oper.semAt_some
theorem Ql2{w w':World}{B:Nat}{b:Option Nat}{v:Value}{l:List UInt8}(hown:OwnB w B v l)(hg:w.grownBy w' v.ownBlock):Lib.OthersKept 5 b w w':=by
 intro k o hk _ ho;refine(hg.block k (Qas hk) fun e=>?_).trans hk;rcases hown.2 with⟨h1,_⟩|⟨g,cap,cur,h1,h2,h3,h4⟩
 ·rw [h1]at e;cases e
 ·rw [h1]at e
  cases e;rw [hk]at h3;exact ho cur (0,0) (Option.some.inj h3)
theorem Qql{e:TypeId}{w w':World}(h:Lib.OthersKept e none w w')(u:Value):Lib.OthersKept e none w (w'.setCell ⟨w.heap.size,0,none⟩ u):=
 fun k o hk hb ho=>(Below.heap_setCell _ _ _ k (by have:=Qas hk;simp;omega)).trans (h k o hk hb ho)
def padI(c:Nat):List UInt8:=(Lib.itoa (IntKind.i64.wrap (1000000000+IntKind.i64.wrap (c:Int)))).drop 1
theorem Qyt{c:Nat}(h:c<1000000000):padI c=pad9 c:=by
 unfold padI pad9;rw [show IntKind.i64.wrap (c:Int)=c from IntWalk.i64_in _ (by omega),show IntKind.i64.wrap (1000000000+(c:Int))=((1000000000+c:Nat):Int)from(IntWalk.i64_in _ (by omega)).trans (by omega),Lib.itoa_nonneg]
theorem Qqm{e:TypeId}{w W W':World}{g:Nat}(h:Lib.OthersKept e none w W)(hg:w.heap.size<=g)(h':Lib.OthersKept e (some g) W W'):Lib.OthersKept e none w W':=
 fun k o hk hb ho=>h' k o (h k o hk hb ho) (fun hh=>by cases hh;have:=Qas hk;omega) ho
theorem Qir{β:Type}{e:TypeId}{b:Option Nat}{w:World}{B:Nat}(hB:w.heap.size<=B):OwnFrom B (fun(_:β) W=>Lib.OthersKept e b w W):=
 fun _ X Y row hs hg hr k o hk hb ho=>by
  refine(hg.block k ?_ (fun e'=>?_)).trans (hs k o hk hb ho)
  ·exact Qas (hs k o hk hb ho)
  ·have:=(hr k e'.symm).1
   have:=Qas hk;omega
theorem Qqn(u:Nat)(h:u<9223372036854775808):(Lib.decDigits u).length<=21:=by
 have:=Lib.itoa_length_le (u:Int) (by omega) (by omega)
 rwa [Lib.itoa_nonneg]at this
theorem Qyu{cs:List Nat}{m:Nat}(hm:m<=cs.length)(hl:∀c∈cs,c<1000000000):((bk cs m m).map fun y=>padI y.2)=(cs.take m).reverse.map pad9:=by
 apply List.ext_getElem
 ·simp [bk];omega
 ·intro j h1 h2
  have hj:j<m:=by simpa [bk] using h1
  have hc:m-1-j<cs.length:=by omega
  have hx:=hl _ (List.getElem_mem hc);simp only [bk,List.getElem_map,List.getElem_range,List.getElem_reverse,List.getElem_take,List.length_take];rw [List.getD_eq_getElem?_getD,List.getElem?_eq_getElem hc,Option.getD_some,Qyt hx]
  congr 2
  omega
theorem Ql3(A:Option Addr)(n c:Nat)(w:World):
 Calls prog 226 #[.slice A n c] w fun e w'=>e=.returned (.func (.func 268) #[] #[.pointer (some ⟨w.heap.size,0,none⟩)])/\w'=w.alloc (.cells #[.slice A n c] 25):=by
 go_enter func226,ntmps226
 go_wp2
 go_ret;exact⟨rfl,rfl⟩
theorem Qf2(B c:Nat)(A:Option Addr)(v:Value)(l:List UInt8)(w:World)(hown:OwnB w B v l)(hB:B<=w.heap.size)(hl:l.length<=1000000):
 Calls prog 179 #[v,.slice A 0 c] w (RetTx w B (l++[48])):=by
 obtain⟨A',c',rfl⟩:=hown.shape;refine(callsIn_wide (n:=6)).1 ?_;refine callsIn_of_wp_marks func179 rfl trivial ?_ rfl;simp only [ntmps179,List.size_toArray,List.length_cons,List.length_nil,Nat.reduceAdd,Nat.reduceSub,Array.replicate_succ,Array.replicate_zero,List.push_toArray,List.append_toArray,List.nil_append,List.cons_append];refine wpIn_wide.2 ?_;have hbA:Below B w ((w.alloc (.cells #[.slice A' l.length c'] 137)).alloc (.cells #[.int .u8 48] 5)):=((Below.refl _ _).alloc hB _).alloc (by simp;omega) _;have hownA:OwnB ((w.alloc (.cells #[.slice A' l.length c'] 137)).alloc (.cells #[.int .u8 48] 5)) B (.slice A' l.length c') l:=(hown.alloc _).alloc _;have hlit:((w.alloc (.cells #[.slice A' l.length c'] 137)).alloc (.cells #[.int .u8 48] 5)).cell? ⟨w.heap.size+1,0,none⟩=some (.int .u8 ((48:UInt8).toNat:Int)):=by
  have:=Boxed.new (w.alloc (.cells #[.slice A' l.length c'] 137)) 5 (.int .u8 48);rw [World.size_alloc]at this;exact this.cell
 go_wp2_with (at_builtin;refine Qff rfl (.tmp 13) (.tmp 14) rfl rfl B _ l 48 rfl hownA _ rfl hlit (by omega) (by simp;omega) ?_)
 intro v' w' h1 hg;go_wp2_with fail
 refine⟨_,results_tmp rfl _ _ _,v',rfl,h1,hbA.grown hg (le_trans hB (by simp;omega)) (fun k hk=>(hownA.lt k hk).1),?_⟩;exact(((Lib.OthersKept.refl _ _ w).alloc _).alloc _).trans (Ql2 hownA hg)
attribute [local go_sem] Oper.semAt_some
theorem Qfg(B X n c:Nat)(A:Option Addr)(v:Value)(l:List UInt8)(w:World)(HT:Hid (∀W,Below B w W->TxF W))(hown:OwnB w B v l)(hB:B<=w.heap.size)(hl:l.length<=100000000)(hx:Num w (limbs X) A n c)(hn:n<=1000000)(hX:X≠0)(hX9:X<1000000000):
 Calls prog 179 #[v,.slice A n c] w (RetTx w B (l++Lib.decDigits X)):=by
 obtain⟨A',c',rfl⟩:=hown.shape;have hn0:((n:Int)==0)=false:=by
  rw [beq_eq_false_iff_ne];intro h;have:n=0:=by omega
  rw [hx.len]at this;exact hX (Qae.1 this)
 have hXP:X<P 1000000:=Nat.lt_of_lt_of_le (Qap X) (Qjl (by have:=hx.len;omega));have hbA:Below B w (w.alloc (.cells #[.slice A' l.length c'] 137)):=(Below.refl _ _).alloc hB _;have hbA':Below w.heap.size w (w.alloc (.cells #[.slice A' l.length c'] 137)):=(Below.refl _ _).alloc (le_refl _) _;have hbox:Boxed (w.alloc (.cells #[.slice A' l.length c'] 137)) w.heap.size 137 (.slice A' l.length c'):=Boxed.new _ _ _;have hownA:OwnB (w.alloc (.cells #[.slice A' l.length c'] 137)) B (.slice A' l.length c') l:=hown.alloc _;have hotA:Lib.OthersKept 5 none w (w.alloc (.cells #[.slice A' l.length c'] 137)):=(Lib.OthersKept.refl _ _ w).alloc _;have hxA:=hx.below hbA';have hszA:(w.alloc (.cells #[.slice A' l.length c'] 137)).heap.size=w.heap.size+1:=World.size_alloc ..;have HX:=hid hX;have HX9:=hid hX9;have HXP:=hid hXP;have HSZ:=hid hszA;clear hX hXP hszA hX9;refine(callsIn_wide (n:=6)).1 ?_;refine callsIn_of_wp_marks func179 rfl trivial ?_ rfl;simp only [ntmps179,List.size_toArray,List.length_cons,List.length_nil,Nat.reduceAdd,Nat.reduceSub,Array.replicate_succ,Array.replicate_zero,List.push_toArray,List.append_toArray,List.nil_append,List.cons_append];refine wpIn_wide.2 ?_;go_wp2_with fail
 generalize w.alloc (.cells #[.slice A' l.length c'] 137)=W at*
 refine(Qdk _ _ _ (limbs X) _ hxA (by omega)).mono ?_;rintro e w1 ⟨A1,n1,c1,rfl,h1,hb1⟩;have hn1:n1<=1000000:=by have:=h1.len;have:=hx.len;omega
 go_wp2_with fail
 go_loopg [5,6] X (fun g s5 s6 wr=> ∃(A1:Option Addr) (n1 c1:Nat) (vc:Value) (cs:List Nat) (R:Nat),s5=vc/\s6=.slice A1 n1 c1/\Own wr W.heap.size (limbs R) A1 n1 c1/\OwnR wr W.heap.size vc cs/\
  (∀a,A1=some a->vc.ownBlock≠some a.block)/\Below W.heap.size W wr/\n1<=1000000/\R<=g/\
  Hid (cval cs+1000000000^cs.length*R=X/\(∀x∈cs,x<1000000000)/\cs.length<=1/\(cs=[]->R≠0)/\(R=0->cs.getD (cs.length-1) 0≠0)))
 case atStart=>
  refine⟨A1,n1,c1,_,[],X,rfl,rfl,h1,OwnR.nil _ _,(fun a _ e=>by cases e),hb1,hn1,le_refl _,?_⟩;exact⟨by simp [cval],fun x hx=>by simp at hx,by simp,fun _=>HX.out,fun h=>absurd h HX.out⟩
 case round=>
  obtain⟨A2,n2,c2,vc,cs,R,rfl,rfl,hR,hC,hne,hb,hn2,hg,HI⟩:=hrel;by_cases hR0:R=0
  ·have hn20:n2=0:=by rw [hR.len,hR0,Qaf];rfl
   subst hn20;obtain⟨h1',h2',h3',h4',h5'⟩:=HI.out;subst hR0;have hcs0:cs≠[]:=fun h=>h4' h rfl
   obtain⟨m,hm⟩:∃m,cs.length=m+1:=⟨cs.length-1,by have:=List.length_pos_iff.2 hcs0;omega⟩;have hcsl:∀x∈cs,x<4294967296:=fun x hx=>Nat.lt_trans (h2' x hx) (by decide)
   obtain⟨Ac,cc,hv,hAc⟩:=hC.shape;obtain⟨gc,rfl⟩:=hAc hcs0;rw [hm]at hv;subst hv;clear HI;obtain⟨-,hBg,hnc,hcm,post,hmid,hpl⟩:=hC.mid;obtain⟨top,htop⟩:∃t,cs.getD m 0=t:=⟨_,rfl⟩;have htl:top<1000000000:=by
    rw [<-htop,List.getD_eq_getElem?_getD,List.getElem?_eq_getElem (by omega)];exact h2' _ (List.getElem_mem _)
   have hcell:=hmid.cell0 (k:=m) (by omega);rw [htop]at hcell;have hszW:=HSZ.out;have hbx:Boxed wr w.heap.size 137 (.slice A' l.length c'):=(hb.block _ (by omega)).trans hbox;have hob:OwnB wr B (.slice A' l.length c') l:=hownA.keep (fun k hk=>hb.block k (hownA.lt k hk).2);have hbw:Below B w wr:=hbA.trans (hb.mono (by omega));have hot:Lib.OthersKept 5 none w wr:=hotA.trans (fun k o hk _ _=>(hb.block k (Qas hk)).trans hk);have hTr:=HT.out _ hbw;have hw1:IntKind.i64.wrap (((m+1:Nat):Int) - 1)=(m:Int):=(by rw [IntWalk.i64_in _ (by omega)];omega);have hw2:IntKind.u64.wrap (top:Int)=(top:Int):=IntWalk.u64_in _ (by omega);have HTOP:=hid htop;have HTN:Hid (top≠0):=by
    have:=h5' rfl;rw [hm,Nat.add_sub_cancel,htop]at this;exact this
   have HCV:Hid (cval cs=X):=(by show _=_;rw [<-h1'];simp);have HCL:=hid h2';have HM:=hid hm;have hszr:=hb.size;have hmm:(m:Int)<(m:Int)+1:=(by omega);have hmm':((m:Int)<=(m:Int)+1):=(by omega);have hm2:m<=2000000:=(by omega);have HM0:Hid (m<=0):=hid (by omega);have hBr:B<=wr.heap.size:=(by omega);clear HXP HX;clear h1' h2' h3' h4' h5' htop hm hszW hcs0 hcsl hne hg hR hownA hbA hbA' hbox hotA hb1 hxA;have hc0:=hbx.cell;have hf0:=hbx.frozen
   go_upto_region 9 with(fail)
   obtain⟨L1,hL1⟩:∃L1,l++Lib.decDigits top=L1:=⟨_,rfl⟩;have HL1:=hid hL1;have hL1len:L1.length<=100000021:=by
    rw [<-hL1,List.length_append];have:=Qqn top (by omega);omega
   clear hL1
   go_cut []from 31 to 37 (fun wx=> ∃v',Boxed wx w.heap.size 137 v'/\OwnB wx B v' L1/\Below B w wx/\Lib.OthersKept 5 none w wx/\Mid wx gc [] cs post/\TxF wx)
   case first=>
    refine wp_region_still_tail 6 (by kernel_rfl) (by kernel_rfl) ?_;simp only [List.take_succ_cons,List.take_zero,List.drop_succ_cons,List.drop_zero];have ewd:({wr with drawn:=wr.drawn+1}:World)=wr.drew:=rfl;rw [ewd];clear ewd;have hwsz:w.heap.size<wr.drew.heap.size:=hbx.lt;replace hbx:=(show Boxed wr.drew _ _ _ from hbx);replace hob:=hob.drew;replace hbw:=hbw.drew;replace hot:Lib.OthersKept 5 none w wr.drew:=hot;replace hTr:TxF wr.drew:=hTr.keep (fun _ _=>rfl);replace hmid:=hmid.drew;replace hcell:wr.drew.cell? _=_:=hcell;replace hc0:wr.drew.cell? _=_:=hc0;replace hf0:wr.drew.frozen? _=_:=hf0;replace hBr:B<=wr.drew.heap.size:=hBr;clear hb hC hszr;generalize wr.drew=wd at*
    repeat still_step
    refine wpStill_nil ?_;go_wp2_with fail
    refine(Qiq B top _ l _ hTr hob hBr (by omega) (by omega)).mono ?_;rintro e wz ⟨vz,rfl,hz1,hz2,hz3⟩;rw [HL1.out]at hz1;have hbz:Boxed wz w.heap.size 137 _:=hz3 _ _ hbx (by simp) (fun c fz e=>by injection e with _ e2;exact absurd e2 (by decide));have hmz:Mid wz gc [] cs post:=hz3 _ _ hmid (by simp) (fun c fz e=>by injection e with _ e2;exact absurd e2 (by decide));have hnr:=hbz.not_row (by decide) hz1;obtain⟨Az,cz,rfl⟩:=hz1.shape;have hcz:=hbz.cell;have hfz:=hbz.frozen;go_wp2_with fail
    go_meet
    case rel=>
     have hgw:W.heap.size=w.heap.size+1:=HSZ.out;refine⟨_,hbz.set _,hz1.keep (fun k hk=>Below.heap_setCell _ ⟨w.heap.size,0,none⟩ _ k (fun e=>hnr (by rw [hk];exact(congrArg some e).symm))),(hbw.trans hz2).setCell hB _,Qql (hot.trans hz3) _,(Below.heap_setCell _ _ _ gc (by simp;omega)).trans hmz,?_⟩;exact HT.out _ ((hbw.trans hz2).setCell hB _)
   case rest=>
    obtain⟨v',hx1,hx2,hx3,hx4,hx5,hx6⟩:=hcut;go_wp2_with fail
    refine(Ql3 _ m cc _).mono ?_;rintro e wy ⟨rfl,rfl⟩;have hgw:W.heap.size=w.heap.size+1:=HSZ.out;have hwc:w.heap.size<wc.heap.size:=hx1.lt;have hgc:gc<wc.heap.size:=hx5.lt;have hs0:Boxed (wc.alloc (.cells #[.slice (some ⟨gc,0,none⟩) m cc] 25)) wc.heap.size 25 _:=Boxed.new _ _ _;have hBs:wc.heap.size<(wc.alloc (.cells #[.slice (some ⟨gc,0,none⟩) m cc] 25)).heap.size:=(by simp);have hy1:=hx1.alloc (.cells #[.slice (some ⟨gc,0,none⟩) m cc] 25);have hy2:=hx2.alloc (.cells #[.slice (some ⟨gc,0,none⟩) m cc] 25);have hy3:=hx3.alloc (le_trans hB (Nat.le_of_lt hwc)) (.cells #[.slice (some ⟨gc,0,none⟩) m cc] 25);have hy4:=hx4.alloc (.cells #[.slice (some ⟨gc,0,none⟩) m cc] 25);have hy5:Mid (wc.alloc (.cells #[.slice (some ⟨gc,0,none⟩) m cc] 25)) gc [] cs post:=(Below.heap_alloc _ _ gc hx5.lt).trans hx5;generalize wc.alloc (.cells #[.slice (some ⟨gc,0,none⟩) m cc] 25)=W2 at*
    go_wp2_with fail
    have hB2:B<=W2.heap.size:=(by omega);refine(wpIn_wide (n:=6)).1 ?_;refine wpIn_rangeFunc_ownF rfl (by omega) (gf:=268) (lb:=#[.pointer (some ⟨wc.heap.size,0,none⟩)]) rfl trivial (enters_of func268 (by kernel_rfl) rfl)
     (Qqj Fence.wide _ trivial rfl (by omega) wc.heap.size gc m cc cs (by omega) W2 hBs (by omega) hs0.cell (fun j hj=>hy5.cell0 (by have:=HM.out;omega)))
     (fun h k=>h.trans k) ?kb (Below.refl _ _) (fun _=>rfl)
     (fun pre W3=>(∃v,Boxed W3 w.heap.size 137 v/\W3.ownsRow B 5 1 v (L1++(pre.map fun y=>padI y.2).flatten).length (Lib.byteCells (L1++(pre.map fun y=>padI y.2).flatten))/\True)/\Below B w W3/\Lib.OthersKept 5 (some w.heap.size) W2 W3)
     (fun _ _ _=>False)
     (OwnFrom.and (Own.from (holdsRow_own B w.heap.size 137 5 1 (fun(pre:List (Nat × Nat))=>(L1++(pre.map fun y=>padI y.2).flatten).length) (fun pre=>Lib.byteCells (L1++(pre.map fun y=>padI y.2).flatten)) (fun _ _=>True)) _) (OwnFrom.and (ownFrom_below hB hB2) (Qir (le_refl _))))
     (fun _ _ _ _ _ hs _ _=>hs)
     ⟨⟨v',hy1,by rw [List.map_nil,List.flatten_nil,List.append_nil];exact hy2,trivial⟩,hy3,Lib.OthersKept.refl _ _ _⟩
     ?a1 ?assign ?body ?done ?stop
    case kb=>
     intro W l' o o' hl' hlo _ _;have:=Qas hlo;exact⟨(grownBy_putObj' W l' o').block gc (by omega) (fun e=>by cases e;omega),(grownBy_putObj' W l' o').block wc.heap.size (by omega) (fun e=>by cases e;omega)⟩
    case assign=>
     intro l x W K hK
     gi_wp2
     exact hK
    case body=>
     rintro lr pre x W3 _ hlen;exact absurd hlen (by have:=HM0.out;omega)
    case done=>
     rintro D xs W4 hD rfl ⟨⟨v6,hb6,ho6,-⟩,hB6,hO6⟩ hK;have hc6:=hb6.cell;have ht6:L1++((bk cs m m).map fun y=>padI y.2).flatten=l++Lib.decDigits X:=by
      rw [Qyu (by have:=HM.out;omega) HCL.out,Qv7 HM.out HCV.out HCL.out (by rw [HTOP.out];exact HTN.out),HTOP.out,<-List.append_assoc,HL1.out]
     rw [ht6]at ho6;clear ht6
     gi_wp2
     go_wp2_with fail
     refine⟨by simp,.inl ⟨_,_,rfl,run_takeDeferred hK,?_⟩⟩;refine⟨_,results_tmp rfl _ _ _,v6,rfl,ownsRow_putObj ho6 _ hK rfl,?_,?_⟩
     ·exact hB6.grown (grownBy_putObj' _ D _) (le_trans hB hB6.size) (fun k e=>by have:=Option.some.inj e;omega)
     ·have h7:=Qqm hy4 (le_refl _) hO6
      exact fun k o hk hb ho=>((grownBy_putObj' _ D _).block k (Qas (h7 k o hk hb ho)) (fun e=>by have:=Option.some.inj e;have:=Qas hk;omega)).trans (h7 k o hk hb ho)
    case stop=>
     rintro D c pre W _ _ h _;exact h.elim
  ·have hnp:0<n2:=by
    rcases Nat.eq_zero_or_pos n2 with h|h
    ·rw [hR.len]at h;exact absurd (Qae.1 h) hR0
    ·exact h
   have hdp:decide ((0:Int)<(n2:Int))=true:=decide_eq_true (by omega);obtain⟨b,pre,post,rfl,hBb,hmid⟩:=hR.row hnp;have hlr:=Qau R;obtain⟨rm,hrm⟩:∃rm,R%1000000000=rm:=⟨_,rfl⟩;have HRM:Hid (val (limbs R)%1000000000=rm):=(by show _=_;rw [Qab];exact hrm);have hneb:=hne _ rfl;have hlen2:=hR.len;have hcap2:=hR.cap;have HR0:=hid hR0;have HN2:=hid hlen2;clear hlen2 hR0 hR;go_wp2_with fail
   refine(Qgq b pre.length n2 c2 1000000000 rm pre post (limbs R) _ hmid hlr rfl HN2.out hcap2 (by omega) (by omega) (by omega) HRM).mono ?_;rintro e w2 ⟨rfl,L,hm2,hg2,hL1,hL2,hL3⟩;rw [Qab]at hL3;have hC2:OwnR w2 W.heap.size _ cs:=World.ownsRow.kept hC hg2 (.inr hneb);have hrl:rm<4294967296:=(by omega);have hul:Lim [rm]:=Lim.cons hrl Lim.nil;have hb2:Below W.heap.size W w2:=hb.grown hg2 hb.size (fun k hk=>by cases hk;exact hBb);have hnum:Num (w2.alloc (.cells #[.int .u32 (rm:Int)] 97)) [rm] (some ⟨w2.heap.size,0,none⟩) 1 1:=(show Row _ _ [rm]from heap_alloc_new w2 _).num hul rfl (le_refl _);have hb3:Below W.heap.size W (w2.alloc (.cells #[.int .u32 (rm:Int)] 97)):=hb2.alloc hb2.size _;go_wp2_with (at_builtin;refine Qeh rfl (.tmp 23) (.tmp 26) rfl rfl W.heap.size _ cs [rm] rfl (World.ownsRow.alloc hC2 _) _ 1 1 rfl hnum ?c1 ?c2 ?_)
   case c1=>have:=HI.out.2.2.1;simp;omega
   case c2=>exact hb3.size
   intro v3 w3 hC3 hg3 hsame;have hb4:Below W.heap.size W w3:=hb3.grown hg3 hb3.size (fun k hk=>(World.ownsRow.lt hC2 k hk).1);have hm3:Mid w3 b pre L post:=(hg3.block b (by have:=hm2.lt;simp;omega) (fun e=>hneb e.symm)).trans ((Below.heap_alloc w2 _ b hm2.lt).trans hm2);have hown3:Own w3 W.heap.size L (some ⟨b,pre.length,none⟩) n2 c2:=hm3.own hBb hL2 rfl hL1.symm hcap2;go_wp2_with fail
   refine(Qat _ n2 c2 L _ hown3.num (by omega)).mono ?_;rintro e w4 ⟨rfl,rfl⟩;have hv3:v3.ownBlock≠some b:=by
    rcases hsame with h|h
    ·rw [h];exact hneb
    ·rw [h];intro e;injection e with e;have:=hm2.lt;have:=World.size_alloc w2 (.cells #[.int .u32 (rm:Int)] 97);omega
   have hT3:=hown3.trim;rw [hL3]at hT3;go_wp2_with fail
   go_roundg (R / 1000000000)
   case rel=>
    have hI:=HI.out;refine⟨_,_,_,_,cs++[rm],R / 1000000000,rfl,rfl,hT3,hC3,(fun a ha e=>by cases ha;exact hv3 e),hb4,?_,le_refl _,?_⟩
    ·have:=Qad (Nat.div_le_self R 1000000000);have:=HN2.out;omega
    ·refine⟨?_,?_,?_,?_,?_⟩
     ·rw [Ql1,List.length_append,<-hI.1]
      simp only [List.length_cons,List.length_nil,Nat.zero_add,Nat.pow_succ];have:=Nat.div_add_mod R 1000000000;rw [hrm]at this;rw [<-this]
      grind
     ·intro x hx
      rcases List.mem_append.1 hx with hx|hx
      ·exact hI.2.1 x hx
      ·simp at hx;subst hx;omega
     ·have h9:=hI.1
      have hx9:=HX9.out;have hr0:=Nat.pos_of_ne_zero HR0.out;rcases Nat.eq_zero_or_pos cs.length with h0|h0
      ·rw [List.length_append,h0];simp
      ·exfalso
       have h1:1000000000<=1000000000^cs.length:=Nat.le_self_pow (by omega) _;have h2:1000000000<=1000000000^cs.length*R:=le_trans h1 (Nat.le_mul_of_pos_right _ hr0);omega
     ·intro h;simp at h
     ·intro h0
      rw [List.length_append];simp;have:=HR0.out;omega
   case measure=>have:=HR0.out;omega
end Go.Proofs.YthbhgelncdnmgaaGreatDoor
