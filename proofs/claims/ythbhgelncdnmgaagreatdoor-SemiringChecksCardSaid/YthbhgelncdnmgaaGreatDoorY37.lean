import Derived.Test.YthbhgelncdnmgaaGreatDoorY30
import Derived.Test.YthbhgelncdnmgaaGreatDoorY36
set_option linter.unusedVariables false
set_option linter.unusedSimpArgs false
set_option maxRecDepth 100000
set_option maxHeartbeats 4000000
namespace Go.Proofs.YthbhgelncdnmgaaGreatDoor
open Go.Proofs.Tryz
open Lib (hid)
open Nat (le_trans)
open Go.RowKit Go.Maps Go.Sort
abbrev MT:TypeId:=71
theorem Qtr(b:Nat)(w:World):
 Calls prog 231 #[.map (some b)] w fun e w'=>e=.returned (.func (.func 277) #[] #[.pointer (some ⟨w.heap.size,0,none⟩)])/\w'=w.alloc (.cells #[.map (some b)] 145):=by
 go_enter func231,ntmps231
 go_wp2
 go_ret;exact⟨rfl,rfl⟩
theorem Qts{w:World}{b n:Nat}{D:DataW Value}(h:w.ownsMap prog 147 RV b n D){e:Ex}(he:deg e<=5){v:Value}(hv:D.atKey (klOf e) (.held zR)=.held v):
 (Instr.lookup 145 (.map (some b)) (exV e) false).run prog w=.ok v w:=by
 obtain⟨v',ps,hrun,hv'⟩:=h.lookup keyed underlying145 (Qo6 w) (zd:=.held zR) (zp:=[]) rfl (Qh6 he);have h5:(DataW.held v':DataW Value)=D.atKey (klOf e) (.held zR):=by simpa using congrArg Prod.fst (Option.some.inj hv')
 rw [hv]at h5;obtain rfl:v'=v:=by injection h5
 exact hrun
theorem Qdv{w w':World}{b n:Nat}{D:DataW Value}(h:w.ownsMap prog 147 RV b n D)(hb:Below w.heap.size w w'):w'.ownsMap prog 147 RV b n D:=by
 have hlt:=h.lt;obtain⟨es,ck,h1,h2⟩:=h;exact⟨es,ck,(hb.block b hlt).trans h1,h2⟩
theorem Qha:(prog.info? 71).map (fun i=>(i.zero,i.size,i.bytes))=some (some (.agg #[.int .i64 0,.int .i64 0,.int .i64 0,.bool false,.slice none 0 0,.slice none 0 0]),6,80):=by kernel_rfl
theorem Qv8(w:World)(B:Nat)(v:Value)(n:Nat)(xs:List Value)(hown:w.ownsRow B MT 6 v n xs)(g:Nat)(z:List Value)(hz:z.length=6)(hg:Cs w g z MT)(h1:∀u∈z,u.oneCell'=true)(hn:n<=1000000)(hB:B<=w.heap.size):
 ∃v' w',(Builtin.append_ #[29,29] 29 #[v,.slice (some ⟨g,0,none⟩) 1 1]).run prog w=.ok v' w'/\w'.ownsRow B MT 6 v' (n+1) (xs++z)/\w.grownBy w' v.ownBlock:=by
 obtain⟨i0,hi,hz0,hz1,hz2⟩:=info_parts Qha;obtain⟨v',w',h2,h3,h4,_⟩:=run_append_own_at (P:=prog) w B 29 29 MT i0 _ 6 80 underlying29 hi hz0 hz1 hz2 rfl (by decide) v n xs hown ⟨g,0,none⟩ 1 1 z (by omega)
  (fun j u hju=>by
   have e:(⟨g,0,none⟩:Addr).add j=⟨g,j,none⟩:=(by unfold Addr.add;split<;>simp_all);rw [e];exact hg.cell hju) h1 (by unfold maxLen;omega) (by omega) hB
 exact⟨v',w',h2,h3,h4⟩
theorem Qia{w:World}{ops:Array Oper}{o:Oper}{a:Act}{Q:Exit->Act->World->Prop}{K:Act->World->Prop}{E:Prop}(hgd:o.guard=none)(sl x:Operand)
 (ho:o.op=.call {callee:=.builtin .append,args:=#[sl,x],argTypes:=#[29,29]})(hty:o.type=29)(v v' u:Value)(w':World)(hs:a.eval sl=v)(hx:a.eval x=u)
 (hrun:Hid ((Builtin.append_ #[29,29] 29 #[v,u]).run prog w=.ok v' w'))(hK:K (a.put o.dst v') w'):
 if Region.wanted o (yielded ops a.tmps)=true then Oper.wp prog o a w K Q else E:=by
 have hw:Region.wanted o (yielded ops a.tmps)=true:=by simp [Region.wanted,hgd]
 have hr:=hrun.out;rw [if_pos hw];unfold Oper.wp;simp [execOp,ho,hty,resolve,invoke,builtin,hs,hx,hr,Result.andThen];exact hK
theorem RdK.at3{w:World}{xs:List (List Value)}{A:Option Addr}{n c:Nat}(h:RdK w 3 xs A n c){i:Nat}{z0 z1 z2:Value}(hx:xs[i]? =some [z0,z1,z2]):
 ∃b o,A=some ⟨b,o,none⟩/\b<w.heap.size/\w.cell? ⟨b,o+i*3,none⟩=some z0/\w.cell? ⟨b,o+i*3+1,none⟩=some z1/\w.cell? ⟨b,o+i*3+2,none⟩=some z2:=by
 have hi:i<xs.length:=(List.getElem?_eq_some_iff.1 hx).1;obtain⟨b,o,hA,hb,hc⟩:=h.cells (by have:=h.len;omega);exact⟨b,o,hA,hb,hc i _ hx 0 _ rfl,hc i _ hx 1 _ rfl,hc i _ hx 2 _ rfl⟩
def mcs(f:Ex->Value × Value × Value)(e:Ex):List Value:=[.int .i64 (e.1:Int),.int .i64 (e.2.1:Int),.int .i64 (e.2.2:Int),(f e).1,(f e).2.1,(f e).2.2]
def used(c:Co)(K:List Ex):List Ex:=K.filter fun e=>decide (c e≠0)
theorem Ql9(c:Co)(K:List Ex)(e:Ex):used c (K++[e])=if c e=0 then used c K else used c K++[e]:=by
 unfold used;rw [List.filter_append];by_cases h:c e=0
 ·simp [h]
 ·simp [h]
theorem Qf3{w w':World}{base size k:Nat}{e:TypeId}{v:Value}{xs:List Value}(h:w.ownsRow base e size v k xs)(hb:RowKit.Below w.heap.size w w'):w'.ownsRow base e size v k xs:=by
 refine⟨h.1,?_⟩;rcases h.2 with h1|⟨g,cap,cur,rfl,h2,h3,h4⟩
 ·exact .inl h1
 ·exact .inr ⟨g,cap,cur,rfl,h2,(hb.block g (Qas h3)).trans h3,h4⟩
theorem Qma(c:Co)(K:List Ex):upTo c K=(used c K).map fun e=>(e,c e):=rfl
theorem pol_of_row{w:World}{f:Ex->Value × Value × Value}{c:Co}{U:List Ex}{A:Option Addr}{cap:Nat}(h:RdK w 6 (U.map (mcs f)) A U.length cap)(hr:∀e∈U,RatQ w (.agg #[(f e).1,(f e).2.1,(f e).2.2]) (c e)):Pol w (.slice A U.length cap) (U.map fun e=>(e,c e)):=by
 refine⟨A,U.length,cap,U.map (mcs f),rfl,h,by simp,fun i e q hi=>?_⟩;rw [List.getElem?_map,List.getElem?_map]at hi;obtain⟨m,hm,he⟩:=Option.map_eq_some_iff.1 hi;obtain⟨x,hx,rfl⟩:=Option.map_eq_some_iff.1 hm;simp only [rawOf,Prod.mk.injEq]at he;obtain⟨⟨rfl,rfl,rfl⟩,rfl⟩:=he;exact⟨(f x).1,(f x).2.1,(f x).2.2,by rw [List.getElem?_map,hx];rfl,hr x (List.mem_of_getElem? hx)⟩
theorem Qtt(q:Rat):(q.num.sign !=0)=decide (q≠0):=by
 by_cases h:q=0
 ·subst h;rfl
 ·have:q.num≠0:=fun h'=>h (Rat.num_eq_zero.1 h')
  simp [Int.sign_eq_zero_iff_zero,this,h]
theorem Qib(b n:Nat)(c:Co)(w:World)(hT:Tab w)(hS:Sums w b n c)(hn:n<=1000000)(hc:SzC c 1000000):Calls prog 186 #[.map (some b)] w (RetPol w (listOf c)):=by
 obtain⟨D,hown,hD0,hat⟩:=hS.own;have hex:∀e:Ex,∃z:Value × Value × Value,(∀u∈[z.1,z.2.1,z.2.2],u.oneCell'=true)/\(deg e<=5->D.atKey (klOf e) (.held zR)=.held (.agg #[z.1,z.2.1,z.2.2])/\RatQ w (.agg #[z.1,z.2.1,z.2.2]) (c e)/\∃nb A n c' B m e',z.1=.bool nb/\z.2.1=.slice A n c'/\z.2.2=.slice B m e'):=fun e=>by
  by_cases he:deg e<=5
  ·obtain⟨v,hv,hr⟩:=hat e he
   obtain⟨nb,A,n,c',B,m,e',rfl⟩:=hr.agg;refine⟨(.bool nb,.slice A n c',.slice B m e'),fun u hu=>?_,fun _=>⟨hv,hr,nb,A,n,c',B,m,e',rfl,rfl,rfl⟩⟩;simp only [List.mem_cons,List.not_mem_nil,or_false]at hu;rcases hu with rfl|rfl|rfl<;>rfl
  ·refine⟨(.bool false,.bool false,.bool false),fun u hu=>?_,fun h=>absurd h he⟩
   simp only [List.mem_cons,List.not_mem_nil,or_false,or_self]at hu;subst hu;rfl
 obtain⟨f,hf⟩:=Classical.axiomOfChoice hex;have h1c:∀e,∀u∈mcs f e,u.oneCell'=true:=fun e u hu=>by
  simp only [mcs,List.mem_cons,List.not_mem_nil,or_false]at hu;rcases hu with rfl|rfl|rfl|h
  ·rfl
  ·rfl
  ·rfl
  ·exact(hf e).1 u (by simpa using h)
 obtain⟨hbk,c0⟩:Below w.heap.size w (w.alloc (.cells #[.map (some b)] 145))/\Cs (w.alloc (.cells #[.map (some b)] 145)) w.heap.size [.map (some b)] 145:=⟨(Below.refl _ _).alloc (Nat.le_refl _) _,Cs.new w [.map (some b)] _⟩;have hsort:=Qip w.heap.size b n D c _ (Qdv hown hbk) hD0 hn (c0.cell (k:=0) rfl) c0.lt;have HSORT:=hid hsort;have HF:=hid hf;have H1C:=hid h1c;have HOWN:=hid hown;clear hsort hf h1c hown hex hat hS hD0;go_enter func186,ntmps186;go_wp2_with fail
 refine(Qtr b w).mono ?_;rintro e w1 ⟨rfl,hw1⟩;have HW1:=hid hw1;clear hw1;go_wp2_with fail
 rw [HW1.out];refine HSORT.out.mono ?_;rintro e w2 ⟨A,cap,K,rfl,hK,hKs,hrd,hb2⟩;have hB2:Below w.heap.size w w2:=bt hbk hb2;have HKS:=hid hKs;have HKP:=hid hK;have HRD:=hid hrd;have hlenK:K.length<=56:=by
  have:=hKs.1.length_le_of_subset (fun e he=>(Qdo e).2 ((hKs.2 e).1 he).1)
  rwa [Qe8]at this
 clear hKs hK hrd hb2 hbk c0;go_wp2_with fail
 go_loopw [3,10] (fun p i wr=> ∃k,k<=K.length/\i=.int .i64 (k:Int)/\wr.ownsRow w2.heap.size MT 6 p (used c (K.take k)).length ((used c (K.take k)).flatMap (mcs f))/\Below w2.heap.size w2 wr) (fun _ i _=>(K.length-intOf i).toNat)
 case atStart=>exact⟨0,Nat.zero_le _,rfl,World.ownsRow_nil ..,Below.refl _ _⟩
 case round=>
  obtain⟨k,hk,rfl,hrow,hB⟩:=hrel;rcases Nat.lt_or_ge k K.length with hkn|hkn
  ·obtain⟨x,hm⟩:∃x,K[k]? =some x:=⟨K[k],List.getElem?_eq_getElem hkn⟩
   have hdx:=((HKS.out.2 x).1 (List.mem_of_getElem? hm)).1;obtain⟨hat,hr,nb,Ay,ny,cy,By,my,ey,h0,h1,h2⟩:=(HF.out x).2 hdx;have hmc:mcs f x=[.int .i64 (x.1:Int),.int .i64 (x.2.1:Int),.int .i64 (x.2.2:Int),.bool nb,.slice Ay ny cy,.slice By my ey]:=(by unfold mcs;rw [h0,h1,h2]);rw [h0,h1,h2]at hat hr;obtain⟨bk,ok,rfl,hbk,y0,y1,y2⟩:=(HRD.out.below hB).at3 (i:=k) (z0:=.int .i64 (x.1:Int)) (z1:=.int .i64 (x.2.1:Int)) (z2:=.int .i64 (x.2.2:Int)) (by rw [List.getElem?_map,hm];rfl);obtain⟨hb3,d3⟩:=new3 wr (x.1:Int) (x.2.1:Int) (x.2.2:Int);have hB0:RowKit.Below w.heap.size w wr:=bt hB2 hB;have hB3:=bt hB0 hb3;have hl1:(Instr.lookup 145 (.map (some b)) (.agg #[.int .i64 (x.1:Int),.int .i64 (x.2.1:Int),.int .i64 (x.2.2:Int)]) false).run prog (wr.alloc (E3 x.1 x.2.1 x.2.2))=.ok (.agg #[.bool nb,.slice Ay ny cy,.slice By my ey]) (wr.alloc (E3 x.1 x.2.1 x.2.2)):=Qts (Qdv HOWN.out hB3) hdx hat
   have hT3:=hT.below hB3;have hr3:=hr.below hB3;have hrow3:=Qf3 hrow hb3;have hBB:=bt hB hb3;have v3:=d3.c3;have hlt:(k:Int)<(K.length:Int):=(by omega);have HK:=hid hkn;have HM:=hid hm;have HMC:=hid hmc;have HAT:=hid hat
   have HDX:=hid hdx;clear hkn hm hmc hat hb3 hB3 hB0 hrow h0 h1 h2;go_wp2_with fail
   generalize (wr.alloc (E3 x.1 x.2.1 x.2.2))=W3 at*
   clear y0 y1 y2 hl1 v3;refine(Qg6 _ (c x) 1000000 _ hT3 (hr3.inp (hc x HDX.out) (by omega))).mono ?_;rintro e4 w4 ⟨rfl,hb4⟩;have hBB4:=bt hBB hb4;replace hrow3:=Qf3 hrow3 hb4;replace d3:=d3.below hb4 d3.lt;by_cases hc0:c x=0
   ·have hs:((c x).num.sign !=0)=false:=by rw [Qtt,hc0];rfl
    go_wp2_with fail
    go_roundw
    case rel=>
     refine⟨k+1,by have:=HK.out;omega,congrArg (Value.int _) (by omega),?_,hBB4⟩;rw [List.take_succ_eq_append_getElem HK.out,(List.getElem?_eq_some_iff.1 HM.out).2,Ql9,if_pos hc0];exact hrow3
    case measure=>simp [intOf];have:=HK.out;omega
   ·have hs:((c x).num.sign !=0)=true:=by rw [Qtt];exact decide_eq_true hc0
    have HC0:=hid hc0;generalize (c x).num.sign=sg at*
    have hBB5:=hBB4.drew;have hBw:RowKit.Below w.heap.size w w4.drew:=bt hB2 hBB5;have hl2:(Instr.lookup 145 (.map (some b)) (.agg #[.int .i64 (x.1:Int),.int .i64 (x.2.1:Int),.int .i64 (x.2.2:Int)]) false).run prog w4.drew=.ok (.agg #[.bool nb,.slice Ay ny cy,.slice By my ey]) w4.drew:=Qts (Qdv HOWN.out hBw) HDX.out HAT.out;have hrow4:=Qf3 hrow3 ((RowKit.Below.refl _ w4).drew);obtain⟨hb6,d6⟩:=new6 w4.drew (.int .i64 (x.1:Int)) (.int .i64 (x.2.1:Int)) (.int .i64 (x.2.2:Int)) (.bool nb) (.slice Ay ny cy) (.slice By my ey);have hrow5:=Qf3 hrow4 hb6;have hlen:(used c (K.take k)).length<=1000000:=by
     have h1:(used c (K.take k)).length<=(K.take k).length:=List.length_filter_le _ _;rw [List.length_take]at h1;omega
    obtain⟨p5,w5,hrun,hown5,hg5⟩:=Qv8 _ w2.heap.size _ _ _ hrow5 w4.drew.heap.size _ rfl d6 (by rw [<-HMC.out];exact H1C.out x) hlen (le_trans hBB5.size hb6.size);have hBB6:=(bt hBB5 hb6).grown hg5 (le_trans hBB5.size hb6.size) (fun j e=>(hrow5.lt j e).1);have HRUN:=hid hrun;have v3:=(show Cs w4.drew wr.heap.size (e3 x.1 x.2.1 x.2.2) 147 from d3).c3;clear hrun hBB hBB4 hBB5 hb4 hrow3 hrow4 hT3 hr3 hb6;go_wp2_with fail
    go_region_law (first|(refine Qia rfl (.tmp 19) (.tmp 25) rfl rfl _ _ _ _ rfl rfl HRUN ?_)|fail)
    all_goals go_wp2_with fail
    all_goals refine⟨⟨k+1,HK.out,congrArg (Value.int _) (by omega),?_,hBB6⟩,by simp [intOf];have:=HK.out;omega⟩
    all_goals rw [List.take_succ_eq_append_getElem HK.out,(List.getElem?_eq_some_iff.1 HM.out).2,Ql9,if_neg HC0.out,List.length_append,List.flatMap_append,List.flatMap_singleton,HMC.out]
    all_goals exact hown5
  ·obtain rfl:k=K.length:=by omega
   have hlt:¬(K.length:Int)<(K.length:Int):=(by omega);have hfin:(upTo c K).reverse=listOf c:=Qli HKP.out (fun e he=>((HKS.out.2 e).1 he).1) (fun e he hne=>by
    obtain⟨g1,g2,_⟩:=(HF.out e).2 he;have hno:has D (klOf e)=false:=by
     cases hh:has D (klOf e)
     ·rfl
     ·exact absurd ((HKS.out.2 e).2 ⟨he,hh⟩) hne
    rw [atKey_of_not_has hno]at g1;injection g1 with g1;rw [<-g1]at g2;exact Qyq g2)
   rw [List.take_length]at hrow;have hB0:RowKit.Below w.heap.size w wr:=bt hB2 hB;rcases hrow.2 with⟨rfl,hz⟩|⟨gb,cap2,cur,rfl,hbase,hgb,r1,r2,r3,r4⟩
   ·have hU:used c K=[]:=List.eq_nil_of_length_eq_zero hz
    have hrev:Calls prog 232 #[.slice none 0 0] wr _:=Go.Proofs.AnyQ.slices_Reverse_empty Ls.Tryz.reverseM none 0 wr;have HREV:=hid hrev;clear hrev hrow;go_wp2_with fail
    refine HREV.out.mono ?_;rintro e w9 ⟨rfl,rfl⟩;go_wp2_with fail
    go_ret;refine⟨_,rfl,?_,hB0⟩;rw [<-hfin,Qma,hU];exact Pol.nil _ _ _
   ·have hgl:gb<wr.heap.size:=Qas hgb
    have hlen:(used c K).length<=56:=le_trans (List.length_filter_le _ _) hlenK;have hH:HoldsK (mcs f) 6 wr gb 0 (used c K).toArray:=holds_of_row (mcs f) 6 (fun _=>rfl) hgb r4;have hrev:=Go.Proofs.AnyQ.slices_Reverse Ls.Tryz.reverseM 6 isAgg71 sizeOf71 (mcs f) (fun _=>rfl) H1C.out gb 0 cap2 (used c K).toArray wr hH (by simp;omega);have hrev':Calls prog 232 #[.slice (some ⟨gb,0,none⟩) (used c K).length cap2] wr fun e w'=>e=.returned (.tuple #[])/\∃n,w'=putRowK (mcs f) 6 (Sort.ahead wr n) gb 0 (used c K).reverse.toArray:=by
     have e1:(used c K).toArray.reverse=(used c K).reverse.toArray:=(by simp);rw [<-e1];exact hrev
    have HREV:=hid hrev';have HH:=hid hH;have HR1:=hid r1;have HGB:Hid (w.heap.size<=gb):=le_trans hB2.size hbase;clear hrev hrev' hrow hH r1 r2 r3 r4 hgb;go_wp2_with fail
    refine HREV.out.mono ?_;rintro e w9 ⟨rfl,n9,hw9⟩;have HW9:=hid hw9;clear hw9;go_wp2_with fail
    go_ret;have hg9:wr.grownBy w9 (some gb):=by
     rw [HW9.out];have:=Qgm (mcs f) 6 wr gb n9 (used c K).reverse.toArray #[]
     rwa [Sort.grow_empty]at this
    have hH9:HoldsK (mcs f) 6 w9 gb 0 (used c K).reverse.toArray:=by
     rw [HW9.out];exact holdsK_putRowK (mcs f) 6 _ gb 0 (used c K).toArray _ (holdsK_ahead (mcs f) 6 wr n9 gb 0 _ HH.out) (by simp)
    have hB9:RowKit.Below w.heap.size w w9:=hB0.grown hg9 hB0.size (fun j e=>by cases e;exact HGB.out);have hl2:(used c K).reverse.length=(used c K).length:=List.length_reverse;refine⟨_,rfl,?_,hB9⟩;rw [<-hfin,Qma,<-List.map_reverse,<-hl2];refine pol_of_row (f:=f) (rdk_of_holds (mcs f) 6 (fun _=>rfl) hH9 (Nat.lt_of_lt_of_le hgl hg9.size) (by rw [hl2];exact HR1.out)) (fun e he=>?_);have hek:e∈K:=(List.mem_filter.1 (List.mem_reverse.1 he)).1;exact((HF.out e).2 ((HKS.out.2 e).1 hek).1).2.1.below hB9
end Go.Proofs.YthbhgelncdnmgaaGreatDoor
