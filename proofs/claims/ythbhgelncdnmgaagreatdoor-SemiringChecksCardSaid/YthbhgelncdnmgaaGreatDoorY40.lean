import Derived.Test.YthbhgelncdnmgaaGreatDoorY22
import Derived.Test.YthbhgelncdnmgaaGreatDoorY39
set_option linter.unusedVariables false
set_option linter.unusedSimpArgs false
set_option maxRecDepth 20000
set_option maxHeartbeats 4000000
namespace Go.Proofs.YthbhgelncdnmgaaGreatDoor
open Go.Proofs.Tryz
open Lib (hid)
open Nat (le_refl le_trans zero_le lt_or_eq_of_le le_of_lt_succ not_lt_zero)
open Go.RowKit
theorem dOf_P(p:List Mon):dOf (svP p)=.mk false [] [] 0 false 0 (p.map fldOf) []:=by
 unfold dOf;show WD.mk _ (limbs 0) _ _ _ _ _ _=_;rw [Qaf];rfl
theorem wrd_p{w:World}{A:Option Addr}{n c:Nat}{p:List Mon}(h:PRaw w A n c (p.map fldOf)):WRd w [.bool false,.slice none 0 0,.slice none 0 0,.int .i64 0,.bool false,.int .u64 0,.slice A n c,.slice none 0 0] (dOf (svP p)):=by
 rw [dOf_P];exact WRd.made (Num.nil ..) (Num.nil ..) h (WPs.nil ..)
theorem Qyx{w0 w W:World}{g:Nat}{A:Option Addr}{n c:Nat}{p:List Mon}(h:PRaw w A n c (p.map fldOf))(hb:Below w0.heap.size w0 w)(hg:w0.heap.size<=g)(hc:Cs w g [.bool false,.slice none 0 0,.slice none 0 0,.int .i64 0,.bool false,.int .u64 0,.slice none 0 0,.slice none 0 0] 32)
 (hW:W=((((((((w.setCell ⟨g,0,none⟩ (.bool false)).setCell ⟨g,1,none⟩ (.slice none 0 0)).setCell ⟨g,2,none⟩ (.slice none 0 0)).setCell ⟨g,3,none⟩ (.int .i64 0)).setCell ⟨g,4,none⟩ (.bool false)).setCell ⟨g,5,none⟩ (.int .u64 0)).setCell ⟨g,6,none⟩ (.slice A n c)).setCell ⟨g,7,none⟩ (.slice none 0 0))):
 RetX 0 w0 (dOf (svP p)) (.returned (.agg #[.bool false,.slice none 0 0,.slice none 0 0,.int .i64 0,.bool false,.int .u64 0,.slice A n c,.slice none 0 0])) W:=by
 subst hW;exact Qb8 (wrd_p (h.wch (Wch.s8 (S:=w.heap.size) hc Qbi (zero_le _) hc.lt _ _ _ _ _ _ _ _))) (Qam hb hg _ _ _ _ _ _ _ _)
theorem pin_d{w:World}{A:Option Addr}{n c:Nat}{d:WD}(h:PRaw w A n c d.poly)(sd:SzK d):PIn w (.slice A n c) (ratL d.poly) 1000:=by
 obtain⟨_,_,h3,h4,_,_⟩:=sd.open;exact h.pinG (by omega) h4 (by decide) (by decide)
theorem pi_d{w:World}{A:Option Addr}{n c:Nat}{d:WD}(h:PRaw w A n c d.poly)(sd:SzK d):PI w (.slice A n c) (polL d.poly) 1000:=⟨_,pin_d h sd,rfl⟩
theorem Qg0(d:WD)(x:List Value)(w:World)(V:Bool)(hT:Tab w)(hx:WRd w x d)(sd:SzK d)(H:Hid (tv (chk 5 d)=V)):Calls prog 145 #[.agg x.toArray] w (RetV w (.bool V)):=by
 obtain⟨A,n,c,B,m,e,P,p,r,Q,q,s,rfl,_,_,h3,_⟩:=hx.shape;show Calls _ _ #[.agg #[.bool d.neg,.slice A n c,.slice B m e,.int .i64 d.c,.bool d.i,.int .u64 d.s,.slice P p r,.slice Q q s]] _ _;obtain⟨hb0,k1⟩:=blk1 w [.bool d.neg,.slice A n c,.slice B m e,.int .i64 d.c,.bool d.i,.int .u64 d.s,.slice P p r,.slice Q q s] 32;obtain⟨V1,hV1⟩:∃V1,tv d.onlyP=V1:=⟨_,rfl⟩;obtain⟨V2,hV2⟩:∃V2,tv (vraw (ratL d.poly))=V2:=⟨_,rfl⟩;have HE:Hid ((V1 && V2)=V):=hid (by
  rw [<-H.out,<-hV1,<-hV2,<-Qjc];rfl)
 have HC1:=hid (Qct d _ _ V1 (hx.keep hb0) sd.sze (hid hV1));have HV2:Hid (V2=true↔vraw (ratL d.poly)):=hid (by rw [<-hV2];exact Qce);have HP:=hid (pin_d (h3.below hb0) sd);have HT:=hid (hT.below hb0);clear hV1 hV2 H hx h3 hT;go_enter func145,ntmps145;go_wp2_with fail
 generalize (w.alloc (W8 (.bool d.neg) (.slice A n c) (.slice B m e) (.int .i64 d.c) (.bool d.i) (.int .u64 d.s) (.slice P p r) (.slice Q q s)))=W0 at*
 refine HC1.out.mono ?_;rintro e w1 ⟨rfl,hb1⟩;have HC2:=hid (Qnw _ (ratL d.poly) 1000 w1 (HT.out.below hb1) (HP.out.below hb1) V2 HV2);replace hb0:=bt hb0 hb1;replace k1:=k1.below hb1 k1.lt;clear hb1 HP HT HC1;cases V1
 ·replace HE:Hid (false=V):=HE
  go_wp2_with fail
  have:=HE.out;subst this;go_ret;exact⟨rfl,hb0⟩
 ·replace HE:Hid (V2=V):=HE
  obtain⟨a0,a1,a2,a3,a4,a5,a6,a7⟩:=k1.c8;go_wp2_with fail
  refine HC2.out.mono ?_;rintro e w2 ⟨rfl,hb1⟩;replace hb0:=bt hb0 hb1;go_wp2_with fail
  have:=HE.out;subst this;go_ret;exact⟨rfl,hb0⟩
theorem Pol.sl3{w:World}{v:Value}{l:List Mon}(h:Pol w v l):∃A n c,v=.slice A n c:=by
 obtain⟨A,n,c,_,e,_⟩:=h;exact⟨A,n,c,e⟩
theorem Qit(w:World)(hT:Tab w):Calls prog 148 #[] w (RetX 0 w (dOf (svP (listOf (constC 1))))):=by
 obtain⟨hb0,c3⟩:=blk1 w [.bool false,.slice none 0 0,.slice none 0 0,.int .i64 0,.bool false,.int .u64 0,.slice none 0 0,.slice none 0 0] 32;have HT:=hid (hT.below hb0);clear hT;go_enter func148,ntmps148;go_wp2_with fail
 refine(Qbr _).mono ?_;rintro e w1 ⟨v,rfl,hr,hb1⟩;have HT:=hid (HT.out.below hb1);replace hb0:=bt hb0 hb1;replace c3:=c3.below hb1 c3.lt;clear hb1;obtain⟨A,n,c,B,m,k,rfl,h1,h2⟩:=hr;have HC:=hid (Qqp _ 1 w1 HT.out (RatQ.inp (L:=1000000) ⟨A,n,c,B,m,k,rfl,h1,h2⟩ (Qfe _ (by decide)) (by decide)));clear h1 h2;go_wp2_with fail
 refine HC.out.mono ?_;rintro e w2 ⟨v,rfl,hr,hb1⟩;obtain⟨A3,n3,c3',rfl⟩:∃A n c,v=.slice A n c:=hr.sl3;have HR:=hid hr.praw;clear hr;replace hb0:=bt hb0 hb1;replace c3:=c3.below hb1 c3.lt;clear hb1 HC;obtain⟨g0,g1,g2,g3,g4,g5,g6,g7⟩:=c3.f8;obtain⟨h0,h1,h2,h3,h4,h5,h6,h7⟩:=c3.c8;go_wp2_with fail
 refine Qak (l:=[.bool false,.slice none 0 0,.slice none 0 0,.int .i64 0,.bool false,.int .u64 0,.slice A3 n3 c3',.slice none 0 0]) results148 underlying32 (by kernel_rfl) rfl (Qaj c3 rfl _ _ _ _ _ _ _ _) rfl ?_;exact Qyx HR.out hb0 (by omega) c3 rfl
theorem Qiu(d d2:WD)(x y:List Value)(w:World)(hT:Tab w)(hx:WRd w x d)(hy:WRd w y d2)(sd:SzK d)(sd2:SzK d2):Calls prog 150 #[.agg x.toArray,.agg y.toArray] w (RetX 0 w (dOf (svP (listOf (addC (co (polL d.poly)) (co (polL d2.poly))))))):=by
 obtain⟨A,n,c,B,m,e,P,p,r,Q,q,s,rfl,_,_,h3,_⟩:=hx.shape;obtain⟨A',n',c',B',m',e',P',p',r',Q',q',s',rfl,_,_,h3',_⟩:=hy.shape;show Calls _ _ #[.agg #[.bool d.neg,.slice A n c,.slice B m e,.int .i64 d.c,.bool d.i,.int .u64 d.s,.slice P p r,.slice Q q s],.agg #[.bool d2.neg,.slice A' n' c',.slice B' m' e',.int .i64 d2.c,.bool d2.i,.int .u64 d2.s,.slice P' p' r',.slice Q' q' s']] _ _;obtain⟨hb0,c1,c2,c3⟩:=blk3 w [.bool d.neg,.slice A n c,.slice B m e,.int .i64 d.c,.bool d.i,.int .u64 d.s,.slice P p r,.slice Q q s] [.bool d2.neg,.slice A' n' c',.slice B' m' e',.int .i64 d2.c,.bool d2.i,.int .u64 d2.s,.slice P' p' r',.slice Q' q' s'] [.bool false,.slice none 0 0,.slice none 0 0,.int .i64 0,.bool false,.int .u64 0,.slice none 0 0,.slice none 0 0] 32 32 32;have HP1:=hid (pi_d (h3.below hb0) sd);have HP2:=hid (pi_d (h3'.below hb0) sd2);have HT:=hid (hT.below hb0);have HC:=hid (Add_p _ _ _ _ 1000 _ HT.out HP1.out HP2.out (by decide));clear hx hy h3 h3' hT HP1 HP2 HT sd sd2;go_enter func150,ntmps150;go_wp2_with fail
 refine HC.out.mono ?_;rintro e1 w1 ⟨v,rfl,hr,hb1⟩;obtain⟨A3,n3,c3',rfl⟩:∃A n c,v=.slice A n c:=hr.sl3;have HR:=hid hr.praw;clear hr;replace hb0:=bt hb0 hb1;replace c3:=c3.below hb1 c3.lt;clear hb1 HC;obtain⟨g0,g1,g2,g3,g4,g5,g6,g7⟩:=c3.f8;obtain⟨h0,h1,h2,h3,h4,h5,h6,h7⟩:=c3.c8;go_wp2_with fail
 refine Qak (l:=[.bool false,.slice none 0 0,.slice none 0 0,.int .i64 0,.bool false,.int .u64 0,.slice A3 n3 c3',.slice none 0 0]) results150 underlying32 (by kernel_rfl) rfl (Qaj c3 rfl _ _ _ _ _ _ _ _) rfl ?_;exact Qyx HR.out hb0 (by omega) c3 rfl
theorem Qiv(d d2:WD)(x y:List Value)(w:World)(hT:Tab w)(hx:WRd w x d)(hy:WRd w y d2)(sd:SzK d)(sd2:SzK d2):Calls prog 152 #[.agg x.toArray,.agg y.toArray] w (RetX 0 w (dOf (svP (listOf (mulC (co (polL d.poly)) (co (polL d2.poly))))))):=by
 obtain⟨A,n,c,B,m,e,P,p,r,Q,q,s,rfl,_,_,h3,_⟩:=hx.shape;obtain⟨A',n',c',B',m',e',P',p',r',Q',q',s',rfl,_,_,h3',_⟩:=hy.shape;show Calls _ _ #[.agg #[.bool d.neg,.slice A n c,.slice B m e,.int .i64 d.c,.bool d.i,.int .u64 d.s,.slice P p r,.slice Q q s],.agg #[.bool d2.neg,.slice A' n' c',.slice B' m' e',.int .i64 d2.c,.bool d2.i,.int .u64 d2.s,.slice P' p' r',.slice Q' q' s']] _ _;obtain⟨hb0,c1,c2,c3⟩:=blk3 w [.bool d.neg,.slice A n c,.slice B m e,.int .i64 d.c,.bool d.i,.int .u64 d.s,.slice P p r,.slice Q q s] [.bool d2.neg,.slice A' n' c',.slice B' m' e',.int .i64 d2.c,.bool d2.i,.int .u64 d2.s,.slice P' p' r',.slice Q' q' s'] [.bool false,.slice none 0 0,.slice none 0 0,.int .i64 0,.bool false,.int .u64 0,.slice none 0 0,.slice none 0 0] 32 32 32;have HP1:=hid (pi_d (h3.below hb0) sd);have HP2:=hid (pi_d (h3'.below hb0) sd2);have HT:=hid (hT.below hb0);have HC:=hid (Mul_p _ _ _ _ 1000 1000 _ HT.out HP1.out HP2.out (by have:=Qc9 (Qsu d.poly);omega) (by decide));clear hx hy h3 h3' hT HP1 HP2 HT sd sd2;go_enter func152,ntmps152;go_wp2_with fail
 refine HC.out.mono ?_;rintro e1 w1 ⟨v,rfl,hr,hb1⟩;obtain⟨A3,n3,c3',rfl⟩:∃A n c,v=.slice A n c:=hr.sl3;have HR:=hid hr.praw;clear hr;replace hb0:=bt hb0 hb1;replace c3:=c3.below hb1 c3.lt;clear hb1 HC;obtain⟨g0,g1,g2,g3,g4,g5,g6,g7⟩:=c3.f8;obtain⟨h0,h1,h2,h3,h4,h5,h6,h7⟩:=c3.c8;go_wp2_with fail
 refine Qak (l:=[.bool false,.slice none 0 0,.slice none 0 0,.int .i64 0,.bool false,.int .u64 0,.slice A3 n3 c3',.slice none 0 0]) results152 underlying32 (by kernel_rfl) rfl (Qaj c3 rfl _ _ _ _ _ _ _ _) rfl ?_;exact Qyx HR.out hb0 (by omega) c3 rfl
def okC:Rg->WD->Prop
 | .one k,d=>ck k d
 | .prod ks,d=>chkR (.prod ks) d
def bRel:Rg->WD->WD->Bool
 | .one 2,d,e=>cheapB (svC d.c d.i) (svC e.c e.i)
 | .one 3,d,e=>decide (e.q<d.q)
 |_,_,_=>false
def IsFn(v:Value):Prop:=∃n A,v=.func (.func n) #[] A
structure Ops (E:Rg->World->Value->Value->Value->Prop) (r:Rg) (w:World) (l:List Value):Prop where
 out:∃c cl z o p t s b f g,l=[c,cl,z,o,p,t,s,b,f,g]/\Fn w c (QChk (chkR r))/\Fn w cl (QClean (cleanW r))/\Fn w z (QMake (dOfW (zeroR r)))/\Fn w o (QMake (dOfW (oneR r)))/\
  Fn w p (QBin (okC r) (fun d e=>dOfW (plusR r (valR r d) (valR r e))))/\Fn w t (QBin (okC r) (fun d e=>dOfW (timesR r (valR r d) (valR r e))))/\Fn w b (QRl (okC r) (bRel r))/\IsFn s/\IsFn f/\IsFn g/\E r w s f g
def Parts2(E:Rg->World->Value->Value->Value->Prop)(ks:List Nat)(w:World)(A:Option Addr)(n c:Nat):Prop:=∃xs,RdK w 10 xs A n c/\xs.length=ks.length/\∀(i k:Nat),ks[i]? =some k->∃x,xs[i]? =some x/\Ops E (.one k) w x
abbrev clo(n bp:Nat):Value:=.func (.func n) #[] #[.pointer (some ⟨bp,0,none⟩)]
structure EOk (E:Rg->World->Value->Value->Value->Prop):Prop where
 below:∀ {r w w' s f g},E r w s f g->Below w.heap.size w w'->E r w' s f g
 one:∀w,E (.one 1) w (fv 164) (fv 165) (fv 166)
 two:∀w,E (.one 2) w (fv 124) (fv 126) (fv 127)
 three:∀w bu,Cs w bu [fv 128] 57->E (.one 3) w (clo 133 bu) (fv 135) (fv 137)
 four:∀w bu,Cs w bu [fv 138] 57->E (.one 4) w (clo 142 bu) (fv 143) (fv 144)
 five:∀w,E (.one 5) w (fv 154) (fv 156) (fv 157)
 prod:∀ks w bp A n c,okRg (.prod ks)->Cs w bp [.slice A n c] 91->Parts2 E ks w A n c->E (.prod ks) w (clo 104 bp) (clo 107 bp) (clo 109 bp)
theorem Qbs:EOk (fun _ _ _ _ _=>True):=⟨fun _ _=>trivial,fun _=>trivial,fun _=>trivial,fun _ _ _=>trivial,fun _ _ _=>trivial,fun _=>trivial,fun _ _ _ _ _ _ _ _ _=>trivial⟩
theorem Ops.below{E:Rg->World->Value->Value->Value->Prop}(hE:EOk E){r:Rg}{w w':World}{l:List Value}(h:Ops E r w l)(hb:Below w.heap.size w w'):Ops E r w' l:=by
 obtain⟨c,cl,z,o,p,t,s,b,f,g,e,h1,h2,h3,h4,h5,h6,h7,h9,h10,h11,h8⟩:=h.out;exact⟨c,cl,z,o,p,t,s,b,f,g,e,h1.below hb,h2.below hb,h3.below hb,h4.below hb,h5.below hb,h6.below hb,h7.below hb,h9,h10,h11,hE.below h8 hb⟩
theorem Parts2.below{E:Rg->World->Value->Value->Value->Prop}(hE:EOk E){ks:List Nat}{w w':World}{A:Option Addr}{n c:Nat}(h:Parts2 E ks w A n c)(hb:Below w.heap.size w w'):Parts2 E ks w' A n c:=by
 obtain⟨xs,h1,h2,h3⟩:=h;refine⟨xs,h1.below hb,h2,fun i k hk=>?_⟩;obtain⟨x,h4,h5⟩:=h3 i k hk;exact⟨x,h4,h5.below hE hb⟩
structure ChG (G:Nat->Prop) (w w':World):Prop where
 os:w'.os=w.os
 tape:w'.tape=w.tape
 output:w'.output=w.output
 size:w.heap.size<=w'.heap.size
 block:∀b,b<w.heap.size->¬G b->w'.heap[b]? =w.heap[b]?
theorem ChG.of_below{G:Nat->Prop}{w w':World}(h:Below w.heap.size w w'):ChG G w w':=⟨h.os,h.tape,h.output,h.size,fun b hb _=>h.block b hb⟩
theorem ChG.trans{G:Nat->Prop}{a b c:World}(h:ChG G a b)(k:ChG G b c):ChG G a c:=
 ⟨k.os.trans h.os,k.tape.trans h.tape,k.output.trans h.output,le_trans h.size k.size,fun i hi hg=>(k.block i (Nat.lt_of_lt_of_le hi h.size) hg).trans (h.block i hi hg)⟩
theorem ChG.mono{G G':Nat->Prop}{w w':World}(h:ChG G w w')(hG:∀b,b<w.heap.size->G b->G' b):ChG G' w w':=⟨h.os,h.tape,h.output,h.size,fun b hb hg=>h.block b hb (fun k=>hg (hG b hb k))⟩
theorem ChG.cs{G:Nat->Prop}{w w':World}(h:ChG G w w'){g:Nat}{l:List Value}{t:TypeId}(hc:Cs w g l t)(hg:¬G g):Cs w' g l t:=(h.block g hc.lt hg).trans hc
theorem ChG.setL{G:Nat->Prop}{g:Nat}{w:World}(hg:G g):∀(us:List Value) (k:Nat) (W:World),ChG G w W->ChG G w (Go.Proofs.YthbhgelncdnmgaaGreatDoor.setL W g k us)
 |[],_,_,h=>h
 |u::us,k,W,h=>ChG.setL hg us (k+1) _ ⟨h.os,h.tape,h.output,by simpa using h.size,fun b hb hn=>(Below.heap_setCell W ⟨g,k,none⟩ u b (fun e=>hn (by rw [e];exact hg))).trans (h.block b hb hn)⟩
theorem ChG.s10{G:Nat->Prop}{g:Nat}{w W:World}(hg:G g)(h:ChG G w W)(u0 u1 u2 u3 u4 u5 u6 u7 u8 u9:Value):ChG G w ((((((((((W.setCell ⟨g,0,none⟩ u0).setCell ⟨g,1,none⟩ u1).setCell ⟨g,2,none⟩ u2).setCell ⟨g,3,none⟩ u3).setCell ⟨g,4,none⟩ u4).setCell ⟨g,5,none⟩ u5).setCell ⟨g,6,none⟩ u6).setCell ⟨g,7,none⟩ u7).setCell ⟨g,8,none⟩ u8).setCell ⟨g,9,none⟩ u9):=
 ChG.setL hg [u0,u1,u2,u3,u4,u5,u6,u7,u8,u9] 0 W h
def OSt(E:Rg->World->Value->Value->Value->Prop)(r:Rg)(G:Nat->Prop)(w:World)(l:List Value):Prop:=∀w',ChG G w w'->Ops E r w' l
theorem OSt.ops{E:Rg->World->Value->Value->Value->Prop}{r:Rg}{G:Nat->Prop}{w:World}{l:List Value}(h:OSt E r G w l):Ops E r w l:=h w (ChG.of_below (Below.refl _ _))
theorem OSt.step{E:Rg->World->Value->Value->Value->Prop}{r:Rg}{G:Nat->Prop}{w w':World}{l:List Value}(h:OSt E r G w l)(hc:ChG G w w'):OSt E r G w' l:=fun w2 h2=>h w2 (hc.trans h2)
structure Ch1 (w w':World):Prop where
 os:w'.os=w.os
 tape:w'.tape=w.tape
 output:w'.output=w.output
 size:w.heap.size<=w'.heap.size
 cell:∀ {b:Nat} {x:Value} {t:TypeId},Cs w b [x] t->Cs w' b [x] t
theorem Ch1.of_below{w w':World}(h:Below w.heap.size w w'):Ch1 w w':=⟨h.os,h.tape,h.output,h.size,fun hc=>hc.below h hc.lt⟩
theorem Ch1.trans{a b c:World}(h:Ch1 a b)(k:Ch1 b c):Ch1 a c:=⟨k.os.trans h.os,k.tape.trans h.tape,k.output.trans h.output,le_trans h.size k.size,fun hc=>k.cell (h.cell hc)⟩
theorem Ch1.of_chg{G:Nat->Prop}{w w':World}(h:ChG G w w')(hG:∀b x t,G b->¬Cs w b [x] t):Ch1 w w':=⟨h.os,h.tape,h.output,h.size,fun {b x t} hc=>h.cs hc (fun hg=>hG b x t hg hc)⟩
theorem Ch1.s10{g:Nat}{w:World}{l:List Value}{t:TypeId}(hg:Cs w g l t)(hl:1≠l.length)(u0 u1 u2 u3 u4 u5 u6 u7 u8 u9:Value):Ch1 w ((((((((((w.setCell ⟨g,0,none⟩ u0).setCell ⟨g,1,none⟩ u1).setCell ⟨g,2,none⟩ u2).setCell ⟨g,3,none⟩ u3).setCell ⟨g,4,none⟩ u4).setCell ⟨g,5,none⟩ u5).setCell ⟨g,6,none⟩ u6).setCell ⟨g,7,none⟩ u7).setCell ⟨g,8,none⟩ u8).setCell ⟨g,9,none⟩ u9):=
 Ch1.of_chg (G:=fun b=>b=g) (ChG.s10 (G:=fun b=>b=g) (g:=g) rfl (ChG.of_below (Below.refl _ _)) _ _ _ _ _ _ _ _ _ _) (fun b x t' e hc=>by subst e;exact hc.ne_len hg hl rfl)
theorem Cl.ch1{w w':World}{b1 b2:Nat}{f g:Value}(h:Cl w b1 b2 f g)(hc:Ch1 w w'):Cl w' b1 b2 f g:=⟨hc.cell h.1,hc.cell h.2⟩
def OSt1(E:Rg->World->Value->Value->Value->Prop)(k:Nat)(w:World)(l:List Value):Prop:=∀w',Ch1 w w'->Ops E (.one k) w' l
theorem OSt1.ops{E:Rg->World->Value->Value->Value->Prop}{k:Nat}{w:World}{l:List Value}(h:OSt1 E k w l):Ops E (.one k) w l:=h w (Ch1.of_below (Below.refl _ _))
theorem OSt1.step{E:Rg->World->Value->Value->Value->Prop}{k:Nat}{w w':World}{l:List Value}(h:OSt1 E k w l)(hc:Ch1 w w'):OSt1 E k w' l:=fun w2 h2=>h w2 (hc.trans h2)
def RetOps(E:Rg->World->Value->Value->Value->Prop)(k:Nat)(w0:World)(e:Ending)(w':World):Prop:=∃l:List Value,e=.returned (.agg l.toArray)/\OSt1 E k w' l/\Below w0.heap.size w0 w'
theorem Qv9(k:Nat)(d:WD):clean1 (ck k) (dOf (zeroK k)) d=cleanD k d:=by
 unfold clean1;by_cases h:ck k d
 ·rw [Qbf h,Qch h];rfl
 ·rw [Qag h,Qci h];rfl
theorem Qxj{P:WD->Prop}{z:WD}{w:World}{b1 b2:Nat}{f g:Value}(hC:Cl w b1 b2 f g)(hf:Fn w f (QChk P))(hg:Fn w g (QMake z)):Fn w (cln b1 b2) (QClean (clean1 P z)):=by
 refine⟨_,_,rfl,Qaz func169 (by kernel_rfl) rfl,fun w' hb args R hq=>?_⟩;obtain⟨x,d,wa,rfl,hT,hx,hwa,sd,rfl⟩:=hq;exact Qls P z d f g b1 b2 x wa w' hT hx hwa sd (hC.below hb) (hf.below hb) (hg.below hb)
theorem Qic{k:Nat}{w:World}{b1 b2:Nat}{f g:Value}(hC:Cl w b1 b2 f g)(hf:Fn w f (QChk (ck k)))(hg:Fn w g (QMake (dOf (zeroK k)))):Fn w (cln b1 b2) (QClean (cleanW (.one k))):=
 (Qxj hC hf hg).mono fun w' args R ⟨x,d,wa,h1,h2,h3,h4,h5,h6⟩=>⟨x,d,wa,h1,h2,h3,h4,h5,by rw [h6,Qv9];rfl⟩
theorem Qtv(d e:WD):adC d e=timesK 2 (svC d.c d.i) (svC e.c e.i):=by
 unfold adC;show _=if d.i=true\/e.i=true\/topCost<d.c+e.c then svC 0 true else svC (d.c+e.c) false;by_cases h:d.i=true\/e.i=true\/topCost<d.c+e.c
 ·rw [if_pos h,if_pos (by simpa using h)]
 ·rw [if_neg h,if_neg (by simpa using h)]
theorem Qmf{d:WD}(h:bits d):d.s=((d.s.toNat:Nat):Int)/\d.s.toNat<=allBits:=by
 have:=h.s;exact⟨by omega,by show d.s.toNat<=18446744073709551615;omega⟩
theorem f_chk1(w:World):Fn w (fv 158) (QChk (chk 1)):=Fn.plain (Qaz func158 (by kernel_rfl) rfl) fun w' args R ⟨x,d,V,e1,hT,hx,sd,H,e2⟩=>by
 subst e1 e2;exact Qlw d x w' V hT hx sd H
theorem Qxk(w:World):Fn w (fv 120) (QChk (chk 2)):=Fn.plain (Qaz func120 (by kernel_rfl) rfl) fun w' args R ⟨x,d,V,e1,hT,hx,sd,H,e2⟩=>by
 subst e1 e2;exact Qkc d x w' V hx sd.sze H
theorem Qxl(w:World):Fn w (fv 130) (QChk (chk 3)):=Fn.plain (Qaz func130 (by kernel_rfl) rfl) fun w' args R ⟨x,d,V,e1,hT,hx,sd,H,e2⟩=>by
 subst e1 e2;exact Qh4 d x w' V hT hx sd H
theorem Qxm(w:World):Fn w (fv 139) (QChk (chk 4)):=Fn.plain (Qaz func139 (by kernel_rfl) rfl) fun w' args R ⟨x,d,V,e1,hT,hx,sd,H,e2⟩=>by
 subst e1 e2;exact Qlr d x w' V hx sd.sze H
theorem f_chk5(w:World):Fn w (fv 145) (QChk (chk 5)):=Fn.plain (Qaz func145 (by kernel_rfl) rfl) fun w' args R ⟨x,d,V,e1,hT,hx,sd,H,e2⟩=>by
 subst e1 e2;exact Qg0 d x w' V hT hx sd H
theorem Qyy(w:World):Fn w (fv 159) (QChk (ck 1)):=Fn.plain (Qaz func159 (by kernel_rfl) rfl) fun w' args R ⟨x,d,V,e1,hT,hx,sd,H,e2⟩=>by
 subst e1 e2;exact Qbl d x w' V hx sd.sze H
theorem Qyz(w:World):Fn w (fv 146) (QChk (ck 5)):=Fn.plain (Qaz func146 (by kernel_rfl) rfl) fun w' args R ⟨x,d,V,e1,hT,hx,sd,H,e2⟩=>by
 subst e1 e2;exact Qct d x w' V hx sd.sze H
theorem Qdw(w:World):Fn w (fv 121) (QMake (dOf svZ)):=Fn.plain (Qaz func121 (by kernel_rfl) rfl) fun w' args R ⟨e1,hT,e2⟩=>by
 subst e1 e2;exact Qke w'
theorem f_inf(w:World):Fn w (fv 119) (QMake (dOf (svC 0 true))):=Fn.plain (Qaz func119 (by kernel_rfl) rfl) fun w' args R ⟨e1,hT,e2⟩=>by
 subst e1 e2;exact Qvp w'
theorem f_one1(w:World):Fn w (fv 161) (QMake (dOf (svQ 1))):=Fn.plain (Qaz func161 (by kernel_rfl) rfl) fun w' args R ⟨e1,hT,e2⟩=>by
 subst e1 e2;exact Qqc w'
theorem f_one3(w:World):Fn w (fv 128) (QMake (dOf (svQ 1))):=Fn.plain (Qaz func128 (by kernel_rfl) rfl) fun w' args R ⟨e1,hT,e2⟩=>by
 subst e1 e2;exact Qqd w'
theorem f_one4(w:World):Fn w (fv 138) (QMake (dOf (svS allBits))):=Fn.plain (Qaz func138 (by kernel_rfl) rfl) fun w' args R ⟨e1,hT,e2⟩=>by
 subst e1 e2;exact Qyi w'
theorem f_one5(w:World):Fn w (fv 148) (QMake (dOf (svP (listOf (constC 1))))):=Fn.plain (Qaz func148 (by kernel_rfl) rfl) fun w' args R ⟨e1,hT,e2⟩=>by
 subst e1 e2;exact Qit w' hT
theorem Qy0(w:World):Fn w (fv 162) (QBin (okC (.one 1)) (fun d e=>dOfW (plusR (.one 1) (valR (.one 1) d) (valR (.one 1) e)))):=Fn.plain (Qaz func162 (by kernel_rfl) rfl) fun w' args R ⟨x,y,d,e,e1,hT,hx,hy,sd,se,hd,he,bd,be,e2⟩=>by
 subst e1 e2;exact Qqe d e x y w' hT hx hy sd se
theorem Qy1(w:World):Fn w (fv 122) (QBin (okC (.one 2)) (fun d e=>dOfW (plusR (.one 2) (valR (.one 2) d) (valR (.one 2) e)))):=Fn.plain (Qaz func122 (by kernel_rfl) rfl) fun w' args R ⟨x,y,d,e,e1,hT,hx,hy,sd,se,hd,he,bd,be,e2⟩=>by
 subst e1 e2;exact Qns d e x y w' hx hy
theorem Qy2(w:World):Fn w (fv 131) (QBin (okC (.one 3)) (fun d e=>dOfW (plusR (.one 3) (valR (.one 3) d) (valR (.one 3) e)))):=Fn.plain (Qaz func131 (by kernel_rfl) rfl) fun w' args R ⟨x,y,d,e,e1,hT,hx,hy,sd,se,hd,he,bd,be,e2⟩=>by
 subst e1 e2;exact Qgz d e x y w' hT hx hy sd se hd he
theorem Qy3(w:World):Fn w (fv 140) (QBin (okC (.one 4)) (fun d e=>dOfW (plusR (.one 4) (valR (.one 4) d) (valR (.one 4) e)))):=Fn.plain (Qaz func140 (by kernel_rfl) rfl) fun w' args R ⟨x,y,d,e,e1,hT,hx,hy,sd,se,hd,he,bd,be,e2⟩=>by
 subst e1 e2;exact Qyj d e x y w' hx hy _ _ (Qmf bd).1 (Qmf be).1 (Qmf bd).2 (Qmf be).2
theorem Qy4(w:World):Fn w (fv 150) (QBin (okC (.one 5)) (fun d e=>dOfW (plusR (.one 5) (valR (.one 5) d) (valR (.one 5) e)))):=Fn.plain (Qaz func150 (by kernel_rfl) rfl) fun w' args R ⟨x,y,d,e,e1,hT,hx,hy,sd,se,hd,he,bd,be,e2⟩=>by
 subst e1 e2;exact Qiu d e x y w' hT hx hy sd se
theorem Qwa(w:World):Fn w (fv 132) (QBin (okC (.one 1)) (fun d e=>dOfW (timesR (.one 1) (valR (.one 1) d) (valR (.one 1) e)))):=Fn.plain (Qaz func132 (by kernel_rfl) rfl) fun w' args R ⟨x,y,d,e,e1,hT,hx,hy,sd,se,hd,he,bd,be,e2⟩=>by
 subst e1 e2;exact Qe2 d e x y w' hT hx hy sd se
theorem Qwb(w:World):Fn w (fv 123) (QBin (okC (.one 2)) (fun d e=>dOfW (timesR (.one 2) (valR (.one 2) d) (valR (.one 2) e)))):=Fn.plain (Qaz func123 (by kernel_rfl) rfl) fun w' args R ⟨x,y,d,e,e1,hT,hx,hy,sd,se,hd,he,bd,be,e2⟩=>by
 subst e1 e2;have h:=Qqb d e x y w' hx hy ⟨hd.2.1,hd.2.2.1⟩ ⟨he.2.1,he.2.2.1⟩;rw [Qtv]at h;exact h
theorem Qwc(w:World):Fn w (fv 132) (QBin (okC (.one 3)) (fun d e=>dOfW (timesR (.one 3) (valR (.one 3) d) (valR (.one 3) e)))):=Fn.plain (Qaz func132 (by kernel_rfl) rfl) fun w' args R ⟨x,y,d,e,e1,hT,hx,hy,sd,se,hd,he,bd,be,e2⟩=>by
 subst e1 e2;exact Qe2 d e x y w' hT hx hy sd se
theorem Qwd(w:World):Fn w (fv 141) (QBin (okC (.one 4)) (fun d e=>dOfW (timesR (.one 4) (valR (.one 4) d) (valR (.one 4) e)))):=Fn.plain (Qaz func141 (by kernel_rfl) rfl) fun w' args R ⟨x,y,d,e,e1,hT,hx,hy,sd,se,hd,he,bd,be,e2⟩=>by
 subst e1 e2;exact Qyk d e x y w' hx hy _ _ (Qmf bd).1 (Qmf be).1 (Qmf bd).2 (Qmf be).2
theorem Qwe(w:World):Fn w (fv 152) (QBin (okC (.one 5)) (fun d e=>dOfW (timesR (.one 5) (valR (.one 5) d) (valR (.one 5) e)))):=Fn.plain (Qaz func152 (by kernel_rfl) rfl) fun w' args R ⟨x,y,d,e,e1,hT,hx,hy,sd,se,hd,he,bd,be,e2⟩=>by
 subst e1 e2;exact Qiv d e x y w' hT hx hy sd se
theorem Qtw(w:World):Fn w (fv 106) (QRl (okC (.one 1)) (bRel (.one 1))):=Fn.plain (Qaz func106 (by kernel_rfl) rfl) fun w' args R ⟨x,y,d,e,V,e1,hT,hx,hy,sd,se,hd,he,bd,be,H,e2⟩=>by
 subst e1 e2;have:=H.out;subst this;exact Qdr d e x y w' hx hy
theorem Qtx(w:World):Fn w (fv 125) (QRl (okC (.one 2)) (bRel (.one 2))):=Fn.plain (Qaz func125 (by kernel_rfl) rfl) fun w' args R ⟨x,y,d,e,V,e1,hT,hx,hy,sd,se,hd,he,bd,be,H,e2⟩=>by
 subst e1 e2;exact Qlt d e x y w' V hx hy H
theorem Qty(w:World):Fn w (fv 134) (QRl (okC (.one 3)) (bRel (.one 3))):=Fn.plain (Qaz func134 (by kernel_rfl) rfl) fun w' args R ⟨x,y,d,e,V,e1,hT,hx,hy,sd,se,hd,he,bd,be,H,e2⟩=>by
 subst e1 e2;exact Qjg d e x y w' hT V hx hy sd se H
theorem Qtz(w:World):Fn w (fv 106) (QRl (okC (.one 4)) (bRel (.one 4))):=Fn.plain (Qaz func106 (by kernel_rfl) rfl) fun w' args R ⟨x,y,d,e,V,e1,hT,hx,hy,sd,se,hd,he,bd,be,H,e2⟩=>by
 subst e1 e2;have:=H.out;subst this;exact Qdr d e x y w' hx hy
theorem Qt0(w:World):Fn w (fv 106) (QRl (okC (.one 5)) (bRel (.one 5))):=Fn.plain (Qaz func106 (by kernel_rfl) rfl) fun w' args R ⟨x,y,d,e,V,e1,hT,hx,hy,sd,se,hd,he,bd,be,H,e2⟩=>by
 subst e1 e2;have:=H.out;subst this;exact Qdr d e x y w' hx hy
theorem Qpb{s:Nat}:∀ {xs:List (List Value)},(∀x∈xs,x.length=s)->∀ {i j:Nat} {x:List Value} {v:Value},xs[i]? =some x->x[j]? =some v->xs.flatten[i*s+j]? =some v
 |[],_,i,j,x,v,hi,_=>by simp at hi
 |y::xs,hl,i,j,x,v,hi,hj=>by
  have hy:=hl y (by simp);cases i with
  |zero=>
   obtain rfl:=Option.some.inj (show some y=some x from hi);have:j<y.length:=(List.getElem?_eq_some_iff.1 hj).1;rw [List.flatten_cons,Nat.zero_mul,Nat.zero_add,List.getElem?_append_left this];exact hj
  |succ i=>
   have e:(i+1)*s+j=s+(i*s+j):=(by rw [Nat.add_mul];omega);rw [List.flatten_cons,e,List.getElem?_append_right (by omega),hy,Nat.add_sub_cancel_left];exact Qpb (fun z hz=>hl z (by simp [hz])) (by rw [List.getElem?_cons_succ]at hi;exact hi) hj
theorem Qec{s:Nat}:∀ {xs:List (List Value)},(∀x∈xs,x.length=s)->xs.flatten.length=xs.length*s
 |[],_=>by simp
 |y::xs,hl=>by
  rw [List.flatten_cons,List.length_append,hl y (by simp),Qec (fun z hz=>hl z (by simp [hz])),List.length_cons,Nat.add_mul];omega
theorem Qt1{w:World}{B s n:Nat}{e:TypeId}{v:Value}{xs:List (List Value)}(h:w.ownsRow B e s v n xs.flatten)(hl:∀x∈xs,x.length=s)(hn:n=xs.length):∃A c,v=.slice A n c/\RdK w s xs A n c:=by
 rcases h.2 with⟨rfl,hz⟩|⟨g,cap,cur,rfl,hB,hh,hnc,_,hsz,hcur⟩
 ·have hx:xs=[]:=List.eq_nil_of_length_eq_zero (by omega)
  subst hx;subst hn;exact⟨none,0,rfl,RdK.nil _ _ _ _⟩
 ·refine⟨some ⟨g,0,none⟩,cap,rfl,hn,hnc,fun _=>⟨g,0,rfl,Qas hh,fun i x hi j v hj=>?_⟩⟩
  have hk:=Qpb hl hi hj;rw [Nat.zero_add,cell_of_row w g _ _ _ _ hh];rw [<-hcur]at hk;have hlt:=(List.getElem?_eq_some_iff.1 hk).1;rw [List.getElem?_take]at hk;split at hk
  ·simpa using hk
  ·cases hk
variable {E:Rg->World->Value->Value->Value->Prop}
theorem Qdd(f g:Nat)(A B:Array Value)(w:World):Calls prog 97 #[.func (.func f) #[] A,.func (.func g) #[] B] w (fun e w'=>e=.returned (cln w.heap.size (w.heap.size+1))/\Cl w' w.heap.size (w.heap.size+1) (.func (.func f) #[] A) (.func (.func g) #[] B)/\Below w.heap.size w w'/\w.heap.size+1<w'.heap.size):=by
 obtain⟨hb0,c1,c2⟩:=blk2 w [.func (.func f) #[] A] [.func (.func g) #[] B] 52 57;go_enter func97,ntmps97;go_wp2_with fail
 go_ret;exact⟨rfl,⟨c1,c2⟩,hb0,c2.lt⟩
theorem Cl.chg{G:Nat->Prop}{w w':World}{b1 b2:Nat}{f g:Value}(h:Cl w b1 b2 f g)(hc:ChG G w w')(h1:¬G b1)(h2:¬G b2):Cl w' b1 b2 f g:=⟨hc.cs h.1 h1,hc.cs h.2 h2⟩
theorem Qt2(hE:EOk E)(w:World):Calls prog 91 #[] w (RetOps E 1 w):=by
 obtain⟨hb0,c1⟩:=blk1 w [.nilFunc,.nilFunc,.nilFunc,.nilFunc,.nilFunc,.nilFunc,.nilFunc,.nilFunc,.nilFunc,.nilFunc] 63;go_enter func91,ntmps91;go_wp2_with fail
 refine(Qdd _ _ _ _ _).mono ?_;rintro e w1 ⟨rfl,hC,hb1,hs⟩;rw [show(w.alloc (.cells #[.nilFunc,.nilFunc,.nilFunc,.nilFunc,.nilFunc,.nilFunc,.nilFunc,.nilFunc,.nilFunc,.nilFunc] 63)).heap.size=w.heap.size+1 by simp]at hC;replace hb0:=bt hb0 hb1;replace c1:=c1.below hb1 c1.lt;clear hb1;obtain⟨a0,a1,a2,a3,a4,a5,a6,a7,a8,a9⟩:=c1.c10;obtain⟨f0,f1,f2,f3,f4,f5,f6,f7⟩:=c1.f8;have f8:=c1.frozen 8;have f9:=c1.frozen 9;go_wp2_with fail
 refine Qak (l:=[fv 158,cln (w.heap.size+1) (w.heap.size+1+1),fv 121,fv 161,fv 162,fv 132,fv 164,fv 106,fv 165,fv 166]) results91 underlying63 (by kernel_rfl) rfl (Qa5 c1 rfl _ _ _ _ _ _ _ _ _ _) rfl ?_;have HC:=hC.s10 c1 (by decide) (fv 158) (cln (w.heap.size+1) (w.heap.size+1+1)) (fv 121) (fv 161) (fv 162) (fv 132) (fv 164) (fv 106) (fv 165) (fv 166);refine⟨_,rfl,fun w2 h2=>?_,Qav hb0 (le_refl _) _ _ _ _ _ _ _ _ _ _⟩;exact⟨_,_,_,_,_,_,_,_,_,_,rfl,f_chk1 _,Qic (k:=1) (HC.ch1 h2) (Qyy _) (Qdw _),Qdw _,f_one1 _,Qy0 _,Qwa _,Qtw _,⟨_,_,rfl⟩,⟨_,_,rfl⟩,⟨_,_,rfl⟩,hE.one _⟩
theorem Qy5(hE:EOk E)(w:World):Calls prog 87 #[] w (RetOps E 2 w):=by
 obtain⟨hb0,c1⟩:=blk1 w [.nilFunc,.nilFunc,.nilFunc,.nilFunc,.nilFunc,.nilFunc,.nilFunc,.nilFunc,.nilFunc,.nilFunc] 63;go_enter func87,ntmps87;go_wp2_with fail
 refine(Qdd _ _ _ _ _).mono ?_;rintro e w1 ⟨rfl,hC,hb1,hs⟩;rw [show(w.alloc (.cells #[.nilFunc,.nilFunc,.nilFunc,.nilFunc,.nilFunc,.nilFunc,.nilFunc,.nilFunc,.nilFunc,.nilFunc] 63)).heap.size=w.heap.size+1 by simp]at hC;replace hb0:=bt hb0 hb1;replace c1:=c1.below hb1 c1.lt;clear hb1;obtain⟨a0,a1,a2,a3,a4,a5,a6,a7,a8,a9⟩:=c1.c10;obtain⟨f0,f1,f2,f3,f4,f5,f6,f7⟩:=c1.f8;have f8:=c1.frozen 8;have f9:=c1.frozen 9;go_wp2_with fail
 refine Qak (l:=[fv 120,cln (w.heap.size+1) (w.heap.size+1+1),fv 119,fv 121,fv 122,fv 123,fv 124,fv 125,fv 126,fv 127]) results87 underlying63 (by kernel_rfl) rfl (Qa5 c1 rfl _ _ _ _ _ _ _ _ _ _) rfl ?_;have HC:=hC.s10 c1 (by decide) (fv 120) (cln (w.heap.size+1) (w.heap.size+1+1)) (fv 119) (fv 121) (fv 122) (fv 123) (fv 124) (fv 125) (fv 126) (fv 127);refine⟨_,rfl,fun w2 h2=>?_,Qav hb0 (le_refl _) _ _ _ _ _ _ _ _ _ _⟩;exact⟨_,_,_,_,_,_,_,_,_,_,rfl,Qxk _,Qic (k:=2) (HC.ch1 h2) (Qxk _) (f_inf _),f_inf _,Qdw _,Qy1 _,Qwb _,Qtx _,⟨_,_,rfl⟩,⟨_,_,rfl⟩,⟨_,_,rfl⟩,hE.two _⟩
theorem Qkk(hE:EOk E)(w:World):Calls prog 90 #[] w (RetOps E 5 w):=by
 obtain⟨hb0,c1⟩:=blk1 w [.nilFunc,.nilFunc,.nilFunc,.nilFunc,.nilFunc,.nilFunc,.nilFunc,.nilFunc,.nilFunc,.nilFunc] 63;go_enter func90,ntmps90;go_wp2_with fail
 refine(Qdd _ _ _ _ _).mono ?_;rintro e w1 ⟨rfl,hC,hb1,hs⟩;rw [show(w.alloc (.cells #[.nilFunc,.nilFunc,.nilFunc,.nilFunc,.nilFunc,.nilFunc,.nilFunc,.nilFunc,.nilFunc,.nilFunc] 63)).heap.size=w.heap.size+1 by simp]at hC;replace hb0:=bt hb0 hb1;replace c1:=c1.below hb1 c1.lt;clear hb1;obtain⟨a0,a1,a2,a3,a4,a5,a6,a7,a8,a9⟩:=c1.c10;obtain⟨f0,f1,f2,f3,f4,f5,f6,f7⟩:=c1.f8;have f8:=c1.frozen 8;have f9:=c1.frozen 9;go_wp2_with fail
 refine Qak (l:=[fv 145,cln (w.heap.size+1) (w.heap.size+1+1),fv 121,fv 148,fv 150,fv 152,fv 154,fv 106,fv 156,fv 157]) results90 underlying63 (by kernel_rfl) rfl (Qa5 c1 rfl _ _ _ _ _ _ _ _ _ _) rfl ?_;have HC:=hC.s10 c1 (by decide) (fv 145) (cln (w.heap.size+1) (w.heap.size+1+1)) (fv 121) (fv 148) (fv 150) (fv 152) (fv 154) (fv 106) (fv 156) (fv 157);refine⟨_,rfl,fun w2 h2=>?_,Qav hb0 (le_refl _) _ _ _ _ _ _ _ _ _ _⟩;exact⟨_,_,_,_,_,_,_,_,_,_,rfl,f_chk5 _,Qic (k:=5) (HC.ch1 h2) (Qyz _) (Qdw _),Qdw _,f_one5 _,Qy4 _,Qwe _,Qt0 _,⟨_,_,rfl⟩,⟨_,_,rfl⟩,⟨_,_,rfl⟩,hE.five _⟩
theorem Qt3(hE:EOk E)(w:World):Calls prog 88 #[] w (RetOps E 3 w):=by
 obtain⟨hb0,c1,cu⟩:=blk2 w [.nilFunc,.nilFunc,.nilFunc,.nilFunc,.nilFunc,.nilFunc,.nilFunc,.nilFunc,.nilFunc,.nilFunc] [fv 128] 63 57;go_enter func88,ntmps88;have hmf:∀(fn:_root_.Go.Fn) (first cap:Array Value) (w:World),(Instr.makeFunc fn first cap).run prog w=.ok (.func fn first cap) w:=fun _ _ _ _=>rfl
 have hsz:((w.alloc (.cells #[.nilFunc,.nilFunc,.nilFunc,.nilFunc,.nilFunc,.nilFunc,.nilFunc,.nilFunc,.nilFunc,.nilFunc] 63)).alloc (.cells #[.func (.func 128) #[] #[]] 57)).drew.heap.size=w.heap.size+1+1:=by simp
 go_wp2_with fail
 generalize ((w.alloc (.cells #[.nilFunc,.nilFunc,.nilFunc,.nilFunc,.nilFunc,.nilFunc,.nilFunc,.nilFunc,.nilFunc,.nilFunc] 63)).alloc (.cells #[.func (.func 128) #[] #[]] 57))=W0 at*
 replace hb0:=hb0.drew;replace c1:=c1.drew;replace cu:=cu.drew;have HSZ:=hid hsz;clear hsz;have hrl:(W0.drew.cell? ⟨w.heap.size+1,0,none⟩=some (fv 128)):=cu.cell rfl;have l1:=c1.lt
 go_region_held3 (fun w'=>(w'.cell? ⟨w.heap.size+1,0,none⟩=some (fv 128)))
  (first|with_reducible exact hrl|with_reducible exact hrl2|fail)
  (first|(go_at_call 97;refine(Qdd _ _ _ _ _).mono ?_;rintro e0 x1 ⟨rfl,hC,hbk,hs⟩;rw [HSZ.out]at hC hs⊢;replace hb0:=bt hb0 hbk;replace c1:=c1.below hbk c1.lt;replace cu:=cu.below hbk cu.lt;have hrl:(x1.cell? ⟨w.heap.size+1,0,none⟩=some (fv 128)):=cu.cell rfl;have hrl2:(((((((((((x1.setCell ⟨w.heap.size,0,none⟩ (fv 130)).setCell ⟨w.heap.size,1,none⟩ (cln (w.heap.size+1+1) (w.heap.size+1+1+1))).setCell ⟨w.heap.size,2,none⟩ (fv 121)).setCell ⟨w.heap.size,3,none⟩ (fv 128)).setCell ⟨w.heap.size,4,none⟩ (fv 131)).setCell ⟨w.heap.size,5,none⟩ (fv 132)).setCell ⟨w.heap.size,6,none⟩ (clo 133 (w.heap.size+1))).setCell ⟨w.heap.size,7,none⟩ (fv 134)).setCell ⟨w.heap.size,8,none⟩ (fv 135)).setCell ⟨w.heap.size,9,none⟩ (fv 137)).cell? ⟨w.heap.size+1,0,none⟩=some (fv 128)):=(Qcf cu (by omega) (fv 130) (cln (w.heap.size+1+1) (w.heap.size+1+1+1)) (fv 121) (fv 128) (fv 131) (fv 132) (clo 133 (w.heap.size+1)) (fv 134) (fv 135) (fv 137)).cell rfl;obtain⟨a0,a1,a2,a3,a4,a5,a6,a7,a8,a9⟩:=c1.c10;obtain⟨f0,f1,f2,f3,f4,f5,f6,f7⟩:=c1.f8;have f8:=c1.frozen 8;have f9:=c1.frozen 9)|fail)
 all_goals go_wp2_with fail
 all_goals
  refine Qak (l:=[fv 130,cln (w.heap.size+1+1) (w.heap.size+1+1+1),fv 121,fv 128,fv 131,fv 132,clo 133 (w.heap.size+1),fv 134,fv 135,fv 137]) results88 underlying63 (by kernel_rfl) rfl (Qa5 c1 rfl _ _ _ _ _ _ _ _ _ _) rfl ?_;have HC:=hC.s10 c1 (by decide) (fv 130) (cln (w.heap.size+1+1) (w.heap.size+1+1+1)) (fv 121) (fv 128) (fv 131) (fv 132) (clo 133 (w.heap.size+1)) (fv 134) (fv 135) (fv 137);have HU:=Qcf cu (show w.heap.size+1≠w.heap.size by omega) (fv 130) (cln (w.heap.size+1+1) (w.heap.size+1+1+1)) (fv 121) (fv 128) (fv 131) (fv 132) (clo 133 (w.heap.size+1)) (fv 134) (fv 135) (fv 137);refine⟨_,rfl,fun w2 h2=>?_,Qav hb0 (le_refl _) _ _ _ _ _ _ _ _ _ _⟩;exact⟨_,_,_,_,_,_,_,_,_,_,rfl,Qxl _,Qic (k:=3) (HC.ch1 h2) (Qxl _) (Qdw _),Qdw _,f_one3 _,Qy2 _,Qwc _,Qty _,⟨_,_,rfl⟩,⟨_,_,rfl⟩,⟨_,_,rfl⟩,hE.three _ _ (h2.cell HU)⟩
theorem sets_o(hE:EOk E)(w:World):Calls prog 89 #[] w (RetOps E 4 w):=by
 obtain⟨hb0,c1,cu⟩:=blk2 w [.nilFunc,.nilFunc,.nilFunc,.nilFunc,.nilFunc,.nilFunc,.nilFunc,.nilFunc,.nilFunc,.nilFunc] [fv 138] 63 57;go_enter func89,ntmps89;have hmf:∀(fn:_root_.Go.Fn) (first cap:Array Value) (w:World),(Instr.makeFunc fn first cap).run prog w=.ok (.func fn first cap) w:=fun _ _ _ _=>rfl
 have hsz:((w.alloc (.cells #[.nilFunc,.nilFunc,.nilFunc,.nilFunc,.nilFunc,.nilFunc,.nilFunc,.nilFunc,.nilFunc,.nilFunc] 63)).alloc (.cells #[.func (.func 138) #[] #[]] 57)).drew.heap.size=w.heap.size+1+1:=by simp
 go_wp2_with fail
 generalize ((w.alloc (.cells #[.nilFunc,.nilFunc,.nilFunc,.nilFunc,.nilFunc,.nilFunc,.nilFunc,.nilFunc,.nilFunc,.nilFunc] 63)).alloc (.cells #[.func (.func 138) #[] #[]] 57))=W0 at*
 replace hb0:=hb0.drew;replace c1:=c1.drew;replace cu:=cu.drew;have HSZ:=hid hsz;clear hsz;have hrl:(W0.drew.cell? ⟨w.heap.size+1,0,none⟩=some (fv 138)):=cu.cell rfl;have l1:=c1.lt
 go_region_held3 (fun w'=>(w'.cell? ⟨w.heap.size+1,0,none⟩=some (fv 138)))
  (first|with_reducible exact hrl|with_reducible exact hrl2|fail)
  (first|(go_at_call 97;refine(Qdd _ _ _ _ _).mono ?_;rintro e0 x1 ⟨rfl,hC,hbk,hs⟩;rw [HSZ.out]at hC hs⊢;replace hb0:=bt hb0 hbk;replace c1:=c1.below hbk c1.lt;replace cu:=cu.below hbk cu.lt;have hrl:(x1.cell? ⟨w.heap.size+1,0,none⟩=some (fv 138)):=cu.cell rfl;have hrl2:(((((((((((x1.setCell ⟨w.heap.size,0,none⟩ (fv 139)).setCell ⟨w.heap.size,1,none⟩ (cln (w.heap.size+1+1) (w.heap.size+1+1+1))).setCell ⟨w.heap.size,2,none⟩ (fv 121)).setCell ⟨w.heap.size,3,none⟩ (fv 138)).setCell ⟨w.heap.size,4,none⟩ (fv 140)).setCell ⟨w.heap.size,5,none⟩ (fv 141)).setCell ⟨w.heap.size,6,none⟩ (clo 142 (w.heap.size+1))).setCell ⟨w.heap.size,7,none⟩ (fv 106)).setCell ⟨w.heap.size,8,none⟩ (fv 143)).setCell ⟨w.heap.size,9,none⟩ (fv 144)).cell? ⟨w.heap.size+1,0,none⟩=some (fv 138)):=(Qcf cu (by omega) (fv 139) (cln (w.heap.size+1+1) (w.heap.size+1+1+1)) (fv 121) (fv 138) (fv 140) (fv 141) (clo 142 (w.heap.size+1)) (fv 106) (fv 143) (fv 144)).cell rfl;obtain⟨a0,a1,a2,a3,a4,a5,a6,a7,a8,a9⟩:=c1.c10;obtain⟨f0,f1,f2,f3,f4,f5,f6,f7⟩:=c1.f8;have f8:=c1.frozen 8;have f9:=c1.frozen 9)|fail)
 all_goals go_wp2_with fail
 all_goals
  refine Qak (l:=[fv 139,cln (w.heap.size+1+1) (w.heap.size+1+1+1),fv 121,fv 138,fv 140,fv 141,clo 142 (w.heap.size+1),fv 106,fv 143,fv 144]) results89 underlying63 (by kernel_rfl) rfl (Qa5 c1 rfl _ _ _ _ _ _ _ _ _ _) rfl ?_;have HC:=hC.s10 c1 (by decide) (fv 139) (cln (w.heap.size+1+1) (w.heap.size+1+1+1)) (fv 121) (fv 138) (fv 140) (fv 141) (clo 142 (w.heap.size+1)) (fv 106) (fv 143) (fv 144);have HU:=Qcf cu (show w.heap.size+1≠w.heap.size by omega) (fv 139) (cln (w.heap.size+1+1) (w.heap.size+1+1+1)) (fv 121) (fv 138) (fv 140) (fv 141) (clo 142 (w.heap.size+1)) (fv 106) (fv 143) (fv 144);refine⟨_,rfl,fun w2 h2=>?_,Qav hb0 (le_refl _) _ _ _ _ _ _ _ _ _ _⟩;exact⟨_,_,_,_,_,_,_,_,_,_,rfl,Qxm _,Qic (k:=4) (HC.ch1 h2) (Qxm _) (Qdw _),Qdw _,f_one4 _,Qy3 _,Qwd _,Qtz _,⟨_,_,rfl⟩,⟨_,_,rfl⟩,⟨_,_,rfl⟩,hE.four _ _ (h2.cell HU)⟩
theorem Ops.ten{r:Rg}{w:World}{l:List Value}(h:Ops E r w l):∃(n:Nat->Nat) (A:Nat->Array Value),l=[.func (.func (n 0)) #[] (A 0),.func (.func (n 1)) #[] (A 1),.func (.func (n 2)) #[] (A 2),.func (.func (n 3)) #[] (A 3),.func (.func (n 4)) #[] (A 4),.func (.func (n 5)) #[] (A 5),.func (.func (n 6)) #[] (A 6),.func (.func (n 7)) #[] (A 7),.func (.func (n 8)) #[] (A 8),.func (.func (n 9)) #[] (A 9)]:=by
 obtain⟨c,cl,z,o,p,t,s,b,f,g,e,⟨n0,A0,e0,_⟩,⟨n1,A1,e1,_⟩,⟨n2,A2,e2,_⟩,⟨n3,A3,e3,_⟩,⟨n4,A4,e4,_⟩,⟨n5,A5,e5,_⟩,⟨n7,A7,e7,_⟩,⟨n6,A6,e6⟩,⟨n8,A8,e8⟩,⟨n9,A9,e9⟩,_⟩:=h.out;subst e e0 e1 e2 e3 e4 e5 e6 e7 e8 e9;exact⟨fun i=>[n0,n1,n2,n3,n4,n5,n6,n7,n8,n9].getD i 0,fun i=>[A0,A1,A2,A3,A4,A5,A6,A7,A8,A9].getD i #[],rfl⟩
theorem Qpc(hE:EOk E)(k:Nat)(hk:kind5 k)(w:World):Calls prog 66 #[.int .i64 (k:Int)] w (RetOps E k w):=by
 obtain rfl|rfl|rfl|rfl|rfl:k=1\/k=2\/k=3\/k=4\/k=5:=by unfold kind5 at hk;omega
 ·obtain⟨hb0,c1⟩:=blk1 w [.nilFunc,.nilFunc,.nilFunc,.nilFunc,.nilFunc,.nilFunc,.nilFunc,.nilFunc,.nilFunc,.nilFunc] 63
  go_enter func66,ntmps66;go_wp2_with fail
  refine(Qt2 hE _).mono ?_;rintro e w1 ⟨l,rfl,hl,hb1⟩;obtain⟨n,A,rfl⟩:=hl.ops.ten;replace hb0:=bt hb0 hb1;replace c1:=c1.below hb1 c1.lt;clear hb1;have HO:=hid hl;clear hl;obtain⟨a0,a1,a2,a3,a4,a5,a6,a7,a8,a9⟩:=c1.c10;obtain⟨f0,f1,f2,f3,f4,f5,f6,f7⟩:=c1.f8;have f8:=c1.frozen 8;have f9:=c1.frozen 9;go_wp2_with fail
  refine Qak (l:=[.func (.func (n 0)) #[] (A 0),.func (.func (n 1)) #[] (A 1),.func (.func (n 2)) #[] (A 2),.func (.func (n 3)) #[] (A 3),.func (.func (n 4)) #[] (A 4),.func (.func (n 5)) #[] (A 5),.func (.func (n 6)) #[] (A 6),.func (.func (n 7)) #[] (A 7),.func (.func (n 8)) #[] (A 8),.func (.func (n 9)) #[] (A 9)]) results66 underlying63 (by kernel_rfl) rfl (Qa5 c1 rfl _ _ _ _ _ _ _ _ _ _) rfl ?_;exact⟨_,rfl,fun w2 h2=>HO.out w2 ((Ch1.s10 c1 (by decide) _ _ _ _ _ _ _ _ _ _).trans h2),Qav hb0 (le_refl _) _ _ _ _ _ _ _ _ _ _⟩
 ·obtain⟨hb0,c1⟩:=blk1 w [.nilFunc,.nilFunc,.nilFunc,.nilFunc,.nilFunc,.nilFunc,.nilFunc,.nilFunc,.nilFunc,.nilFunc] 63
  go_enter func66,ntmps66;go_wp2_with fail
  refine(Qy5 hE _).mono ?_;rintro e w1 ⟨l,rfl,hl,hb1⟩;obtain⟨n,A,rfl⟩:=hl.ops.ten;replace hb0:=bt hb0 hb1;replace c1:=c1.below hb1 c1.lt;clear hb1;have HO:=hid hl;clear hl;obtain⟨a0,a1,a2,a3,a4,a5,a6,a7,a8,a9⟩:=c1.c10;obtain⟨f0,f1,f2,f3,f4,f5,f6,f7⟩:=c1.f8;have f8:=c1.frozen 8;have f9:=c1.frozen 9;go_wp2_with fail
  refine Qak (l:=[.func (.func (n 0)) #[] (A 0),.func (.func (n 1)) #[] (A 1),.func (.func (n 2)) #[] (A 2),.func (.func (n 3)) #[] (A 3),.func (.func (n 4)) #[] (A 4),.func (.func (n 5)) #[] (A 5),.func (.func (n 6)) #[] (A 6),.func (.func (n 7)) #[] (A 7),.func (.func (n 8)) #[] (A 8),.func (.func (n 9)) #[] (A 9)]) results66 underlying63 (by kernel_rfl) rfl (Qa5 c1 rfl _ _ _ _ _ _ _ _ _ _) rfl ?_;exact⟨_,rfl,fun w2 h2=>HO.out w2 ((Ch1.s10 c1 (by decide) _ _ _ _ _ _ _ _ _ _).trans h2),Qav hb0 (le_refl _) _ _ _ _ _ _ _ _ _ _⟩
 ·obtain⟨hb0,c1⟩:=blk1 w [.nilFunc,.nilFunc,.nilFunc,.nilFunc,.nilFunc,.nilFunc,.nilFunc,.nilFunc,.nilFunc,.nilFunc] 63
  go_enter func66,ntmps66;go_wp2_with fail
  refine(Qt3 hE _).mono ?_;rintro e w1 ⟨l,rfl,hl,hb1⟩;obtain⟨n,A,rfl⟩:=hl.ops.ten;replace hb0:=bt hb0 hb1;replace c1:=c1.below hb1 c1.lt;clear hb1;have HO:=hid hl;clear hl;obtain⟨a0,a1,a2,a3,a4,a5,a6,a7,a8,a9⟩:=c1.c10;obtain⟨f0,f1,f2,f3,f4,f5,f6,f7⟩:=c1.f8;have f8:=c1.frozen 8;have f9:=c1.frozen 9;go_wp2_with fail
  refine Qak (l:=[.func (.func (n 0)) #[] (A 0),.func (.func (n 1)) #[] (A 1),.func (.func (n 2)) #[] (A 2),.func (.func (n 3)) #[] (A 3),.func (.func (n 4)) #[] (A 4),.func (.func (n 5)) #[] (A 5),.func (.func (n 6)) #[] (A 6),.func (.func (n 7)) #[] (A 7),.func (.func (n 8)) #[] (A 8),.func (.func (n 9)) #[] (A 9)]) results66 underlying63 (by kernel_rfl) rfl (Qa5 c1 rfl _ _ _ _ _ _ _ _ _ _) rfl ?_;exact⟨_,rfl,fun w2 h2=>HO.out w2 ((Ch1.s10 c1 (by decide) _ _ _ _ _ _ _ _ _ _).trans h2),Qav hb0 (le_refl _) _ _ _ _ _ _ _ _ _ _⟩
 ·obtain⟨hb0,c1⟩:=blk1 w [.nilFunc,.nilFunc,.nilFunc,.nilFunc,.nilFunc,.nilFunc,.nilFunc,.nilFunc,.nilFunc,.nilFunc] 63
  go_enter func66,ntmps66;go_wp2_with fail
  refine(sets_o hE _).mono ?_;rintro e w1 ⟨l,rfl,hl,hb1⟩;obtain⟨n,A,rfl⟩:=hl.ops.ten;replace hb0:=bt hb0 hb1;replace c1:=c1.below hb1 c1.lt;clear hb1;have HO:=hid hl;clear hl;obtain⟨a0,a1,a2,a3,a4,a5,a6,a7,a8,a9⟩:=c1.c10;obtain⟨f0,f1,f2,f3,f4,f5,f6,f7⟩:=c1.f8;have f8:=c1.frozen 8;have f9:=c1.frozen 9;go_wp2_with fail
  refine Qak (l:=[.func (.func (n 0)) #[] (A 0),.func (.func (n 1)) #[] (A 1),.func (.func (n 2)) #[] (A 2),.func (.func (n 3)) #[] (A 3),.func (.func (n 4)) #[] (A 4),.func (.func (n 5)) #[] (A 5),.func (.func (n 6)) #[] (A 6),.func (.func (n 7)) #[] (A 7),.func (.func (n 8)) #[] (A 8),.func (.func (n 9)) #[] (A 9)]) results66 underlying63 (by kernel_rfl) rfl (Qa5 c1 rfl _ _ _ _ _ _ _ _ _ _) rfl ?_;exact⟨_,rfl,fun w2 h2=>HO.out w2 ((Ch1.s10 c1 (by decide) _ _ _ _ _ _ _ _ _ _).trans h2),Qav hb0 (le_refl _) _ _ _ _ _ _ _ _ _ _⟩
 ·obtain⟨hb0,c1⟩:=blk1 w [.nilFunc,.nilFunc,.nilFunc,.nilFunc,.nilFunc,.nilFunc,.nilFunc,.nilFunc,.nilFunc,.nilFunc] 63
  go_enter func66,ntmps66;go_wp2_with fail
  refine(Qkk hE _).mono ?_;rintro e w1 ⟨l,rfl,hl,hb1⟩;obtain⟨n,A,rfl⟩:=hl.ops.ten;replace hb0:=bt hb0 hb1;replace c1:=c1.below hb1 c1.lt;clear hb1;have HO:=hid hl;clear hl;obtain⟨a0,a1,a2,a3,a4,a5,a6,a7,a8,a9⟩:=c1.c10;obtain⟨f0,f1,f2,f3,f4,f5,f6,f7⟩:=c1.f8;have f8:=c1.frozen 8;have f9:=c1.frozen 9;go_wp2_with fail
  refine Qak (l:=[.func (.func (n 0)) #[] (A 0),.func (.func (n 1)) #[] (A 1),.func (.func (n 2)) #[] (A 2),.func (.func (n 3)) #[] (A 3),.func (.func (n 4)) #[] (A 4),.func (.func (n 5)) #[] (A 5),.func (.func (n 6)) #[] (A 6),.func (.func (n 7)) #[] (A 7),.func (.func (n 8)) #[] (A 8),.func (.func (n 9)) #[] (A 9)]) results66 underlying63 (by kernel_rfl) rfl (Qa5 c1 rfl _ _ _ _ _ _ _ _ _ _) rfl ?_;exact⟨_,rfl,fun w2 h2=>HO.out w2 ((Ch1.s10 c1 (by decide) _ _ _ _ _ _ _ _ _ _).trans h2),Qav hb0 (le_refl _) _ _ _ _ _ _ _ _ _ _⟩
variable {E:Rg->World->Value->Value->Value->Prop}
theorem Cs.setN{g:Nat}{t:TypeId}:∀(us:List Value) (k:Nat) (w:World) (l:List Value),Cs w g l t->k+us.length<=l.length->Cs (Go.Proofs.YthbhgelncdnmgaaGreatDoor.setL w g k us) g (l.take k++us++l.drop (k+us.length)) t
 |[],k,w,l,h,hk=>by
  simp only [List.append_nil,List.length_nil,Nat.add_zero,List.take_append_drop];exact h
 |u::us,k,w,l,h,hk=>by
  have:=Cs.setN us (k+1) _ _ (h.set k u) (by simp at hk⊢;omega);have hlt:k<(l.set k u).length:=by simp at hk⊢;omega
  have e:(l.set k u).take (k+1)++us++(l.set k u).drop (k+1+us.length)=l.take k++(u::us)++l.drop (k+(u::us).length):=by
   rw [List.take_succ_eq_append_getElem hlt,List.getElem_set_self,List.take_set_of_le (le_refl _),List.drop_set_of_lt (by omega),List.length_cons,show k+1+us.length=k+(us.length+1)by omega];simp
  rw [e]at this;exact this
def zw8:List Value:=[.bool false,.slice none 0 0,.slice none 0 0,.int .i64 0,.bool false,.int .u64 0,.slice none 0 0,.slice none 0 0]
def zrowW(n:Nat):List Value:=(List.replicate n zw8).flatten
theorem mkW(n:Nat)(h:n=2\/n=3)(W:World):(Instr.makeSlice 30 (.int .i64 (n:Int)) (.int .i64 (n:Int))).run prog W=.ok (.slice (some ⟨W.heap.size,0,none⟩) n n) (W.alloc (.cells (zrowW n).toArray 32)):=by
 have h0:(prog.info? 32).map (fun i=>(i.zero,i.size,decide (i.bytes<=1000)))=some (some (.agg #[.bool false,.slice none 0 0,.slice none 0 0,.int .i64 0,.bool false,.int .u64 0,.slice none 0 0,.slice none 0 0]),8,true):=by kernel_rfl
 obtain⟨i,hi,hz⟩:=Option.map_eq_some_iff.1 h0;simp only [Prod.mk.injEq,decide_eq_true_eq]at hz;rcases h with rfl|rfl
 ·have hm:=run_make (P:=prog) W 30 32 i (.agg #[.bool false,.slice none 0 0,.slice none 0 0,.int .i64 0,.bool false,.int .u64 0,.slice none 0 0,.slice none 0 0]) underlying30 hi hz.1 .i64 .i64 2 2 (by omega) (by omega) (by have:=hz.2.2;omega) (by omega)
  rw [hz.2.1]at hm;have e:madeCells (Value.agg #[.bool false,.slice none 0 0,.slice none 0 0,.int .i64 0,.bool false,.int .u64 0,.slice none 0 0,.slice none 0 0]).cells ((2:Int).toNat*8)=(zrowW 2).toArray:=by kernel_rfl
  rw [e]at hm;exact hm
 ·have hm:=run_make (P:=prog) W 30 32 i (.agg #[.bool false,.slice none 0 0,.slice none 0 0,.int .i64 0,.bool false,.int .u64 0,.slice none 0 0,.slice none 0 0]) underlying30 hi hz.1 .i64 .i64 3 3 (by omega) (by omega) (by have:=hz.2.2;omega) (by omega)
  rw [hz.2.1]at hm;have e:madeCells (Value.agg #[.bool false,.slice none 0 0,.slice none 0 0,.int .i64 0,.bool false,.int .u64 0,.slice none 0 0,.slice none 0 0]).cells ((3:Int).toNat*8)=(zrowW 3).toArray:=by kernel_rfl
  rw [e]at hm;exact hm
theorem Qhb(n:Nat):(zrowW n).length=n*8:=by
 unfold zrowW;rw [Qec (s:=8) (fun x hx=>by rw [(List.mem_replicate.1 hx).2];rfl),List.length_replicate]
theorem Qf5(n:Nat):zrowW (n+1)=zw8++zrowW n:=by
 unfold zrowW;rw [List.replicate_succ,List.flatten_cons]
theorem Qmg:isW8 zw8:=⟨_,_,_,_,_,_,_,_,_,_,_,_,_,_,_,_,rfl⟩
structure BInv (us:List SV) (n g k:Nat) (w:World):Prop where
 out:∃ws:List (List Value),ws.length=k/\(∀x∈ws,isW8 x)/\(∀(j:Nat) (a:SV),j<k->us[j]? =some a->∃l,ws[j]? =some l/\WRd w l (dOf a))/\Cs w g (ws.flatten++zrowW (n-k)) 32
theorem BInv.blk{us:List SV}{n g k:Nat}{w:World}(h:BInv us n g k w):∃cells,Cs w g cells 32/\WBlk cells/\(k<=n->cells.length=n*8):=by
 obtain⟨ws,h1,h2,h3,h4⟩:=h.out;refine⟨_,h4,⟨ws++List.replicate (n-k) zw8,by unfold zrowW;rw [List.flatten_append],fun x hx=>?_⟩,fun hk=>?_⟩
 ·rcases List.mem_append.1 hx with hx|hx
  ·exact h2 x hx
  ·rw [(List.mem_replicate.1 hx).2];exact Qmg
 ·rw [List.length_append,Qhb,Qec (s:=8) (fun x hx=>(h2 x hx).len),h1,<-Nat.add_mul]
  congr 1;omega
theorem BInv.below{us:List SV}{n g k:Nat}{w w':World}(h:BInv us n g k w)(hb:Below w.heap.size w w'):BInv us n g k w':=by
 obtain⟨ws,h1,h2,h3,h4⟩:=h.out;refine⟨ws,h1,h2,fun j a hj ha=>?_,h4.below hb h4.lt⟩;obtain⟨l,e1,e2⟩:=h3 j a hj ha;exact⟨l,e1,e2.keep hb⟩
theorem BInv.put{us:List SV}{n g k:Nat}{w:World}(h:BInv us n g k w)(hk:k<n){l:List Value}{a:SV}(ha:us[k]? =some a)(hl:WRd w l (dOf a)):BInv us n g (k+1) (setL w g (k*8) l):=by
 obtain⟨cells,hc,hbk,_⟩:=h.blk;obtain⟨ws,h1,h2,h3,h4⟩:=h.out;have hw:Wch 0 w.heap.size w (setL w g (k*8) l):=Wch.setL hc hbk (zero_le _) hc.lt l (k*8) w (fun _ _ _=>rfl) (le_refl _) rfl rfl rfl;have h8:=hl.isW8.len;have hwl:ws.flatten.length=k*8:=by rw [Qec (s:=8) (fun x hx=>(h2 x hx).len),h1]
 have hz:zrowW (n-k)=zw8++zrowW (n-(k+1)):=by rw [<-Qf5];congr 1;omega
 have hs:=Cs.setN l (k*8) w _ h4 (by rw [List.length_append,hwl,hz,List.length_append,h8];show _<=k*8+(8+_);omega);refine⟨ws++[l],by rw [List.length_append,h1];rfl,fun x hx=>?_,fun j b hj hb=>?_,?_⟩
 ·rcases List.mem_append.1 hx with hx|hx
  ·exact h2 x hx
  ·rw [List.mem_singleton.1 hx];exact hl.isW8
 ·rcases Nat.lt_or_ge j k with hjk|hjk
  ·obtain⟨y,e1,e2⟩:=h3 j b hjk hb
   exact⟨y,by rw [List.getElem?_append_left (by omega)];exact e1,e2.wst rfl _ hw⟩
  ·obtain rfl:j=k:=by omega
   rw [ha]at hb;obtain rfl:=Option.some.inj hb;exact⟨l,by rw [List.getElem?_append_right (by omega),h1,Nat.sub_self];rfl,hl.wst rfl _ hw⟩
 ·have e:(ws.flatten++zrowW (n-k)).take (k*8)++l++(ws.flatten++zrowW (n-k)).drop (k*8+l.length)=(ws++[l]).flatten++zrowW (n-(k+1)):=by
   rw [List.take_append_of_le_length (by omega),List.take_of_length_le (by omega),hz,h8,List.flatten_append]
   congr 1
   ·simp
   ·rw [List.drop_append,List.drop_of_length_le (by omega),hwl,show k*8+8-k*8=8 by omega]
    rw [List.drop_append,show zw8.drop 8=[]from rfl];simp [show zw8.length=8 from rfl]
  rw [e]at hs;exact hs
theorem BInv.done{us:List SV}{n g:Nat}{w:World}(h:BInv us n g n w)(hl:us.length=n):WPs w (some ⟨g,0,none⟩) n n (us.map dOf):=by
 obtain⟨ws,h1,h2,h3,h4⟩:=h.out;rw [Nat.sub_self,show zrowW 0=[]from rfl,List.append_nil]at h4;have:=WPs.of_cs (parts:=us.map dOf) h4 (by rw [List.length_map,h1,hl]) (fun j d hj=>by
  rw [List.getElem?_map]at hj;obtain⟨a,ha,rfl⟩:=Option.map_eq_some_iff.1 hj;exact h3 j a (by have:=(List.getElem?_eq_some_iff.1 ha).1;omega) ha)
 rw [List.length_map,hl]at this;exact this
theorem BInv.wch{us:List SV}{n g k S:Nat}{w w':World}(h:BInv us n g k w)(hw:Wch 0 S w w')(hg:S<=g):BInv us n g k w':=by
 obtain⟨ws,h1,h2,h3,h4⟩:=h.out;refine⟨ws,h1,h2,fun j a hj ha=>?_,?_⟩
 ·obtain⟨l,e1,e2⟩:=h3 j a hj ha
  exact⟨l,e1,e2.wst rfl _ hw⟩
 ·exact((hw.block g h4.lt).resolve_right (fun⟨_,h,_⟩=>by omega)).trans h4
theorem Qmh(us:List SV):dOfW (svZ,us)=.mk false [] [] 0 false 0 [] (us.map dOf):=by
 unfold dOfW;show WD.mk _ (limbs 0) _ _ _ _ _ _=_;rw [Qaf];rfl
theorem BInv.wrd{us:List SV}{n g:Nat}{w:World}(h:BInv us n g n w)(hl:us.length=n):WRd w [.bool false,.slice none 0 0,.slice none 0 0,.int .i64 0,.bool false,.int .u64 0,.slice none 0 0,.slice (some ⟨g,0,none⟩) n n] (dOfW (svZ,us)):=by
 rw [Qmh];exact WRd.made (Num.nil ..) (Num.nil ..) (PRaw.nil ..) (h.done hl)
theorem BInv.zero{us:List SV}{n g k:Nat}{w:World}(h:BInv us n g k w)(hk:k<n):
 At8 w g (k*8) (.bool false) (.slice none 0 0) (.slice none 0 0) (.int .i64 0) (.bool false) (.int .u64 0) (.slice none 0 0) (.slice none 0 0)/\
 (w.frozen? ⟨g,k*8,none⟩=false/\w.frozen? ⟨g,k*8+1,none⟩=false/\w.frozen? ⟨g,k*8+2,none⟩=false/\w.frozen? ⟨g,k*8+3,none⟩=false/\w.frozen? ⟨g,k*8+4,none⟩=false/\w.frozen? ⟨g,k*8+5,none⟩=false/\w.frozen? ⟨g,k*8+6,none⟩=false/\w.frozen? ⟨g,k*8+7,none⟩=false):=by
 obtain⟨ws,h1,h2,h3,h4⟩:=h.out;have hwl:ws.flatten.length=k*8:=by rw [Qec (s:=8) (fun x hx=>(h2 x hx).len),h1]
 have hz:zrowW (n-k)=zw8++zrowW (n-(k+1)):=by rw [<-Qf5];congr 1;omega
 have key:∀(j:Nat) (v:Value),zw8[j]? =some v->w.cell? ⟨g,k*8+j,none⟩=some v:=fun j v hj=>h4.cell (by
  rw [List.getElem?_append_right (by omega),hwl,Nat.add_sub_cancel_left,hz,List.getElem?_append_left (List.getElem?_eq_some_iff.1 hj).1];exact hj)
 exact⟨⟨key 0 _ rfl,key 1 _ rfl,key 2 _ rfl,key 3 _ rfl,key 4 _ rfl,key 5 _ rfl,key 6 _ rfl,key 7 _ rfl⟩,h4.frozen _,h4.frozen _,h4.frozen _,h4.frozen _,h4.frozen _,h4.frozen _,h4.frozen _,h4.frozen _⟩
theorem setL8(W:World)(g k:Nat)(u0 u1 u2 u3 u4 u5 u6 u7:Value):((((((((W.setCell ⟨g,k,none⟩ u0).setCell ⟨g,k+1,none⟩ u1).setCell ⟨g,k+2,none⟩ u2).setCell ⟨g,k+3,none⟩ u3).setCell ⟨g,k+4,none⟩ u4).setCell ⟨g,k+5,none⟩ u5).setCell ⟨g,k+6,none⟩ u6).setCell ⟨g,k+7,none⟩ u7)=setL W g k [u0,u1,u2,u3,u4,u5,u6,u7]:=rfl
def At10(w:World)(b o:Nat)(z:Nat->Value):Prop:=
 w.cell? ⟨b,o,none⟩=some (z 0)/\w.cell? ⟨b,o+1,none⟩=some (z 1)/\w.cell? ⟨b,o+2,none⟩=some (z 2)/\w.cell? ⟨b,o+3,none⟩=some (z 3)/\w.cell? ⟨b,o+4,none⟩=some (z 4)/\w.cell? ⟨b,o+5,none⟩=some (z 5)/\w.cell? ⟨b,o+6,none⟩=some (z 6)/\w.cell? ⟨b,o+7,none⟩=some (z 7)/\w.cell? ⟨b,o+8,none⟩=some (z 8)/\w.cell? ⟨b,o+9,none⟩=some (z 9)
theorem Parts2.len{ks:List Nat}{w:World}{A:Option Addr}{n c:Nat}(h:Parts2 E ks w A n c):n=ks.length:=by
 obtain⟨xs,h1,h2,_⟩:=h;rw [h1.len,h2]
theorem Parts2.at10{ks:List Nat}{w:World}{A:Option Addr}{n c:Nat}(h:Parts2 E ks w A n c){i k:Nat}(hk:ks[i]? =some k):
 ∃(b o:Nat) (nn:Nat->Nat) (AA:Nat->Array Value),A=some ⟨b,o,none⟩/\b<w.heap.size/\Ops E (.one k) w [.func (.func (nn 0)) #[] (AA 0),.func (.func (nn 1)) #[] (AA 1),.func (.func (nn 2)) #[] (AA 2),.func (.func (nn 3)) #[] (AA 3),.func (.func (nn 4)) #[] (AA 4),.func (.func (nn 5)) #[] (AA 5),.func (.func (nn 6)) #[] (AA 6),.func (.func (nn 7)) #[] (AA 7),.func (.func (nn 8)) #[] (AA 8),.func (.func (nn 9)) #[] (AA 9)]/\At10 w b (o+i*10) (fun j=> .func (.func (nn j)) #[] (AA j)):=by
 obtain⟨xs,h1,h2,h3⟩:=h;obtain⟨x,h4,h5⟩:=h3 i k hk;obtain⟨nn,AA,rfl⟩:=h5.ten;have hlt:i<ks.length:=(List.getElem?_eq_some_iff.1 hk).1;obtain⟨b,o,hA,hb,hc⟩:=h1.cells (by have:=h1.len;omega);exact⟨b,o,nn,AA,hA,hb,h5,hc i _ h4 0 _ rfl,hc i _ h4 1 _ rfl,hc i _ h4 2 _ rfl,hc i _ h4 3 _ rfl,hc i _ h4 4 _ rfl,hc i _ h4 5 _ rfl,hc i _ h4 6 _ rfl,hc i _ h4 7 _ rfl,hc i _ h4 8 _ rfl,hc i _ h4 9 _ rfl⟩
theorem At10.below{w w':World}{B b o:Nat}{z:Nat->Value}(h:At10 w b o z)(hb:Below B w w')(hg:b<B):At10 w' b o z:=by
 have e:∀k,w'.cell? ⟨b,k,none⟩=w.cell? ⟨b,k,none⟩:=fun k=>World.cell?_of_block (w:=w) (hb.block b hg)
 unfold At10 at h⊢;rw [e,e,e,e,e,e,e,e,e,e];exact h
def QEl(E:Rg->World->Value->Value->Value->Prop)(ks:List Nat)(us:List SV)(w:World)(args:Array Value)(R:Ending->World->Prop):Prop:=∃(i k:Nat) (a:SV) (x:List Value),ks[i]? =some k/\us[i]? =some a/\args=#[.int .i64 (i:Int),.agg x.toArray]/\Ops E (.one k) w x/\Tab w/\R=RetX 0 w (dOf a)
theorem Qkl(hE:EOk E)(ks:List Nat)(us:List SV)(A:Option Addr)(n c:Nat)(el:Value)(w:World)(hT:Tab w)(hP:Parts2 E ks w A n c)(hn:n=2\/n=3)(hu:us.length=n)(hel:Fn w el (QEl E ks us)):Calls prog 95 #[.slice A n c,el] w (RetX 0 w (dOfW (svZ,us))):=by
 obtain⟨ne,Ae,rfl,ee,hel⟩:=hel;unfold Ent at ee;obtain⟨hb0,c4,cO⟩:=blk2 w [.bool false,.slice none 0 0,.slice none 0 0,.int .i64 0,.bool false,.int .u64 0,.slice none 0 0,.slice none 0 0] (zrowW n) 32 32;have HT:=hid hT;have HP:=hid hP;have HE:=hid hel;have HN:=hid hn;have HU:=hid hu;have HL:=hid hP.len;have hmk:=mkW n hn;have hle:n<=3:=by omega
 have HLE:=hid hle;have HB0:BInv us n (w.heap.size+1) 0 ((w.alloc (.cells #[.bool false,.slice none 0 0,.slice none 0 0,.int .i64 0,.bool false,.int .u64 0,.slice none 0 0,.slice none 0 0] 32)).alloc (.cells (zrowW n).toArray 32)):=⟨⟨[],rfl,fun x hx=>(by cases hx),fun j a hj=>absurd hj (not_lt_zero _),cO⟩⟩;have HI:=hid HB0;clear HB0 cO hT hP hel hn hu;go_enter func95,ntmps95;go_wp2_with fail
 generalize ((w.alloc (W8t 0 false)).alloc (.cells (zrowW n).toArray 32))=W0 at*
 have HB:=hid hb0;have HC4:=hid c4;clear hb0 c4 hmk hle
 go_loopw [13] (fun i wr=> ∃k:Nat,k<=n/\i=.int .i64 (k:Int)/\Below w.heap.size w wr/\Hid (Cs wr w.heap.size [.bool false,.slice none 0 0,.slice none 0 0,.int .i64 0,.bool false,.int .u64 0,.slice none 0 0,.slice none 0 0] 32)/\Hid (BInv us n (w.heap.size+1) k wr)) (fun i _=>(n-intOf i).toNat)
 case atStart=>exact⟨0,zero_le _,rfl,HB.out,HC4,HI⟩
 case round=>
  obtain⟨k,hk,rfl,hb,HC4,HI⟩:=hrel;have HB:=hid hb;by_cases hkn:k<n
  ·obtain⟨kk,hkk⟩:∃m,ks[k]? =some m:=⟨ks[k]'(by have:=HL.out;omega),List.getElem?_eq_getElem _⟩
   obtain⟨a,ha⟩:∃m,us[k]? =some m:=⟨us[k]'(by have:=HU.out;omega),List.getElem?_eq_getElem _⟩;obtain⟨b,o,nn,AA,rfl,hbq,hops,hat⟩:=HP.out.at10 hkk;have hlt:(k:Int)<(n:Int):=(by omega);have hw1:IntKind.i64.wrap ((k:Int)+1)=(k:Int)+1:=IntWalk.i64_in _ (by have:=HLE.out;omega);obtain⟨x0,x1,x2,x3,x4,x5,x6,x7,x8,x9⟩:=hat.below hb hbq;have hb2:=(blk1 wr [.func (.func (nn 0)) #[] (AA 0),.func (.func (nn 1)) #[] (AA 1),.func (.func (nn 2)) #[] (AA 2),.func (.func (nn 3)) #[] (AA 3),.func (.func (nn 4)) #[] (AA 4),.func (.func (nn 5)) #[] (AA 5),.func (.func (nn 6)) #[] (AA 6),.func (.func (nn 7)) #[] (AA 7),.func (.func (nn 8)) #[] (AA 8),.func (.func (nn 9)) #[] (AA 9)] 63).1;have hb3:=bt hb hb2;have HK:=hid hkn;have HA:=hid ha;have HCALL:=hid (HE.out _ hb3 _ _ ⟨k,kk,a,_,hkk,ha,rfl,hops.below hE hb3,HT.out.below hb3,rfl⟩);have HB3:=hid hb3;have HS:=hid (And.intro hb2 hb.size);clear hb hat hops hkk ha hkn hbq hb2 hb3;go_wp2_with fail
   refine HCALL.out.mono ?_;rintro e w1 ⟨l,rfl,hl,hb1⟩;obtain⟨A',n',c',B',m',e',P',p',r',Q',q',s',rfl,_⟩:=hl.rd.shape;have HL1:=hid hl.rd;have HB1:=hid (bt HB3.out hb1);have HC5:=hid (HC4.out.below (bt HS.out.1 hb1) HC4.out.lt);have hi1:=HI.out.below (bt HS.out.1 hb1);have HI1:=hid hi1;obtain⟨⟨y0,y1,y2,y3,y4,y5,y6,y7⟩,⟨f0,f1,f2,f3,f4,f5,f6,f7⟩⟩:=hi1.zero HK.out;clear hl hb1 hi1;go_wp2_with fail
   go_roundw
   case rel=>
    rw [setL8];exact⟨k+1,HK.out,congrArg (Value.int _) (by omega),Qbk (by omega) [.bool (dOf a).neg,.slice A' n' c',.slice B' m' e',.int .i64 (dOf a).c,.bool (dOf a).i,.int .u64 (dOf a).s,.slice P' p' r',.slice Q' q' s'] (k*8) HB1.out,Cs.farL (by omega) [.bool (dOf a).neg,.slice A' n' c',.slice B' m' e',.int .i64 (dOf a).c,.bool (dOf a).i,.int .u64 (dOf a).s,.slice P' p' r',.slice Q' q' s'] (k*8) HC5.out,HI1.out.put HK.out HA.out HL1.out⟩
   case measure=>simp [intOf];have:=HK.out;omega
  ·have hlt:¬(k:Int)<(n:Int):=by omega
   obtain rfl:k=n:=(by omega);obtain⟨e0,e1,e2,e3,e4,e5,e6,e7⟩:=HC4.out.c8;obtain⟨g0,g1,g2,g3,g4,g5,g6,g7⟩:=HC4.out.f8;clear hb;go_wp2_with fail
   refine Qak (l:=[.bool false,.slice none 0 0,.slice none 0 0,.int .i64 0,.bool false,.int .u64 0,.slice none 0 0,.slice (some ⟨w.heap.size+1,0,none⟩) k k]) results95 underlying32 (by kernel_rfl) rfl (Qaj HC4.out rfl _ _ _ _ _ _ _ _) rfl ?_;refine⟨_,rfl,fun w2 h2=>?_,Qam HB.out (le_refl _) _ _ _ _ _ _ _ _⟩;exact((HI.out.wch (Wch.s8 (B:=0) (S:=w.heap.size+1) HC4.out Qbi (zero_le _) (by omega) _ _ _ _ _ _ _ _) (le_refl _)).wch h2 (by omega)).wrd HU.out
variable {E:Rg->World->Value->Value->Value->Prop}
theorem Qf6{k:Nat}(h1:1<=k)(h5:k<=5){d:WD}(h:chk k d):ck k d:=by
 revert h;exact kinds5 (P:=fun k=>chk k d->ck k d) (fun h=>h.1) (fun h=>h) (fun h=>h) (fun h=>h) (fun h=>h.1) k h1 h5
theorem Qid:∀ {ks:List Nat} {ds:List WD} {i k:Nat},chkL ks ds->ks[i]? =some k->∃d,ds[i]? =some d/\chk k d
 |[],_,_,_,_,h=>by simp at h
 |_::_,[],_,_,h,_=>h.elim
 |k'::ks,d::ds,0,k,h,hk=>by
  obtain rfl:=Option.some.inj (show some k'=some k from hk);exact⟨d,rfl,h.1⟩
 |k'::ks,d::ds,i+1,k,h,hk=>by
  rw [List.getElem?_cons_succ]at hk;obtain⟨d0,e1,e2⟩:=Qid h.2 hk;exact⟨d0,by rw [List.getElem?_cons_succ];exact e1,e2⟩
theorem Qf7:∀ {ks:List Nat} {ds:List WD} {i k:Nat} {d:WD},ks[i]? =some k->ds[i]? =some d->(takeL ks ds)[i]? =some (takeK k d)
 |[],_,_,_,_,h,_=>by simp at h
 |_::_,[],_,_,_,_,h=>by simp at h
 |k'::ks,d'::ds,0,k,d,hk,hd=>by
  obtain rfl:=Option.some.inj (show some k'=some k from hk);obtain rfl:=Option.some.inj (show some d'=some d from hd);rfl
 |k'::ks,d'::ds,i+1,k,d,hk,hd=>by
  rw [List.getElem?_cons_succ]at hk hd;show(takeK k' d'::takeL ks ds)[i+1]? =_;rw [List.getElem?_cons_succ];exact Qf7 hk hd
theorem Qed:∀ {ks:List Nat} {ds:List WD},ds.length=ks.length->(takeL ks ds).length=ks.length
 |[],[],_=>rfl
 |k::ks,d::ds,h=>by
  show(takeK k d::takeL ks ds).length=_;rw [List.length_cons,List.length_cons,Qed (by simpa using h)]
 |[],_::_,h=>by simp at h
 |_::_,[],h=>by simp at h
theorem Qnx{f:Nat->SV->SV->SV}:∀ {ks:List Nat} {us bs:List SV} {i k:Nat} {a b:SV},ks[i]? =some k->us[i]? =some a->bs[i]? =some b->(zipK f ks us bs)[i]? =some (f k a b)
 |[],_,_,_,_,_,_,h,_,_=>by simp at h
 |_::_,[],_,_,_,_,_,_,h,_=>by simp at h
 |_::_,_::_,[],_,_,_,_,_,_,h=>by simp at h
 |k'::ks,a'::us,b'::bs,0,k,a,b,hk,ha,hb=>by
  obtain rfl:=Option.some.inj (show some k'=some k from hk);obtain rfl:=Option.some.inj (show some a'=some a from ha);obtain rfl:=Option.some.inj (show some b'=some b from hb);rfl
 |k'::ks,a'::us,b'::bs,i+1,k,a,b,hk,ha,hb=>by
  rw [List.getElem?_cons_succ]at hk ha hb;show(f k' a' b'::zipK f ks us bs)[i+1]? =_;rw [List.getElem?_cons_succ];exact Qnx hk ha hb
theorem Qkm{f:Nat->SV->SV->SV}:∀ {ks:List Nat} {us bs:List SV},us.length=ks.length->bs.length=ks.length->(zipK f ks us bs).length=ks.length
 |[],[],[],_,_=>rfl
 |k::ks,a::us,b::bs,h,h'=>by
  show(f k a b::zipK f ks us bs).length=_;rw [List.length_cons,List.length_cons,Qkm (by simpa using h) (by simpa using h')]
 |[],_::_,_,h,_=>by simp at h
 |_::_,[],_,h,_=>by simp at h
 |[],[],_::_,_,h=>by simp at h
 |_::_,_::_,[],_,h=>by simp at h
theorem Qd2{B S g:Nat}{w0 w1 W:World}{u0 u1 u2 u3 u4 u5 u6 u7:Value}{z:WD}(hl:WSt B S w1 [u0,u1,u2,u3,u4,u5,u6,u7] z)(hS:g<S)(hB:B<=w0.heap.size)(hg:w0.heap.size<=g)(hb:Below w0.heap.size w0 w1)(hc:Cs w1 g [.bool false,.slice none 0 0,.slice none 0 0,.int .i64 0,.bool false,.int .u64 0,.slice none 0 0,.slice none 0 0] 32)
 (hW:W=((((((((w1.setCell ⟨g,0,none⟩ u0).setCell ⟨g,1,none⟩ u1).setCell ⟨g,2,none⟩ u2).setCell ⟨g,3,none⟩ u3).setCell ⟨g,4,none⟩ u4).setCell ⟨g,5,none⟩ u5).setCell ⟨g,6,none⟩ u6).setCell ⟨g,7,none⟩ u7)):
 RetX B w0 z (.returned (.agg #[u0,u1,u2,u3,u4,u5,u6,u7])) W:=by
 subst hW;exact⟨[u0,u1,u2,u3,u4,u5,u6,u7],rfl,(hl.step (Wch.s8 hc Qbi (le_trans hB hg) hS _ _ _ _ _ _ _ _)).mono (le_refl _) (by omega),Qam hb hg _ _ _ _ _ _ _ _⟩
theorem tupZero(i:Int)(k:Nat)(x:List Value)(w:World)(hT:Tab w)(h:Ops E (.one k) w x):Calls prog 96 #[.int .i64 i,.agg x.toArray] w (RetX 0 w (dOf (zeroK k))):=by
 obtain⟨c,cl,z,o,p,t,s,b,f,g,rfl,⟨n0,A0,rfl,_⟩,⟨n1,A1,rfl,_⟩,⟨n2,A2,rfl,e2,h2⟩,⟨n3,A3,rfl,e3,h3⟩,⟨n4,A4,rfl,_⟩,⟨n5,A5,rfl,_⟩,⟨n7,A7,rfl,_⟩,⟨n6,A6,rfl⟩,⟨n8,A8,rfl⟩,⟨n9,A9,rfl⟩,_⟩:=h.out;unfold Ent at e2 e3;obtain⟨hb0,c1,c2⟩:=blk2 w [.func (.func n0) #[] A0,.func (.func n1) #[] A1,.func (.func n2) #[] A2,.func (.func n3) #[] A3,.func (.func n4) #[] A4,.func (.func n5) #[] A5,.func (.func n6) #[] A6,.func (.func n7) #[] A7,.func (.func n8) #[] A8,.func (.func n9) #[] A9] [.bool false,.slice none 0 0,.slice none 0 0,.int .i64 0,.bool false,.int .u64 0,.slice none 0 0,.slice none 0 0] 63 32;have HZ:=hid (h2 _ hb0 #[] _ ⟨rfl,hT.below hb0,rfl⟩);clear h2 h3;rw [Array.empty_append]at HZ;go_enter func96,ntmps96;go_wp2_with fail
 have HS:=hid c2.lt;have HS2:=hid hb0.size;refine HZ.out.mono ?_;rintro e w1 ⟨l,rfl,hl,hb1⟩;obtain⟨A',n',c',B',m',e',P',p',r',Q',q',s',rfl,_⟩:=hl.rd.shape;replace hb0:=bt hb0 hb1;replace c2:=c2.below hb1 c2.lt;have HL:=hid hl;clear hb1 hl HZ;obtain⟨a0,a1,a2,a3,a4,a5,a6,a7⟩:=c2.c8;obtain⟨f0,f1,f2,f3,f4,f5,f6,f7⟩:=c2.f8;go_wp2_with fail
 refine Qak (l:=[.bool (dOf (zeroK k)).neg,.slice A' n' c',.slice B' m' e',.int .i64 (dOf (zeroK k)).c,.bool (dOf (zeroK k)).i,.int .u64 (dOf (zeroK k)).s,.slice P' p' r',.slice Q' q' s']) results96 underlying32 (by kernel_rfl) rfl (Qaj c2 rfl _ _ _ _ _ _ _ _) rfl ?_;exact Qd2 HL.out HS.out (zero_le _) (by omega) hb0 c2 rfl
theorem tupOne(i:Int)(k:Nat)(x:List Value)(w:World)(hT:Tab w)(h:Ops E (.one k) w x):Calls prog 99 #[.int .i64 i,.agg x.toArray] w (RetX 0 w (dOf (oneK k))):=by
 obtain⟨c,cl,z,o,p,t,s,b,f,g,rfl,⟨n0,A0,rfl,_⟩,⟨n1,A1,rfl,_⟩,⟨n2,A2,rfl,e2,h2⟩,⟨n3,A3,rfl,e3,h3⟩,⟨n4,A4,rfl,_⟩,⟨n5,A5,rfl,_⟩,⟨n7,A7,rfl,_⟩,⟨n6,A6,rfl⟩,⟨n8,A8,rfl⟩,⟨n9,A9,rfl⟩,_⟩:=h.out;unfold Ent at e2 e3;obtain⟨hb0,c1,c2⟩:=blk2 w [.func (.func n0) #[] A0,.func (.func n1) #[] A1,.func (.func n2) #[] A2,.func (.func n3) #[] A3,.func (.func n4) #[] A4,.func (.func n5) #[] A5,.func (.func n6) #[] A6,.func (.func n7) #[] A7,.func (.func n8) #[] A8,.func (.func n9) #[] A9] [.bool false,.slice none 0 0,.slice none 0 0,.int .i64 0,.bool false,.int .u64 0,.slice none 0 0,.slice none 0 0] 63 32;have HZ:=hid (h3 _ hb0 #[] _ ⟨rfl,hT.below hb0,rfl⟩);clear h2 h3;rw [Array.empty_append]at HZ;go_enter func99,ntmps99;go_wp2_with fail
 have HS:=hid c2.lt;have HS2:=hid hb0.size;refine HZ.out.mono ?_;rintro e w1 ⟨l,rfl,hl,hb1⟩;obtain⟨A',n',c',B',m',e',P',p',r',Q',q',s',rfl,_⟩:=hl.rd.shape;replace hb0:=bt hb0 hb1;replace c2:=c2.below hb1 c2.lt;have HL:=hid hl;clear hb1 hl HZ;obtain⟨a0,a1,a2,a3,a4,a5,a6,a7⟩:=c2.c8;obtain⟨f0,f1,f2,f3,f4,f5,f6,f7⟩:=c2.f8;go_wp2_with fail
 refine Qak (l:=[.bool (dOf (oneK k)).neg,.slice A' n' c',.slice B' m' e',.int .i64 (dOf (oneK k)).c,.bool (dOf (oneK k)).i,.int .u64 (dOf (oneK k)).s,.slice P' p' r',.slice Q' q' s']) results99 underlying32 (by kernel_rfl) rfl (Qaj c2 rfl _ _ _ _ _ _ _ _) rfl ?_;exact Qd2 HL.out HS.out (zero_le _) (by omega) hb0 c2 rfl
def RS(S:Nat)(a:SV)(w:World)(v:Value):Prop:=∃l:List Value,v=.agg l.toArray/\WSt 0 S w l (dOf a)
theorem RS.below{S:Nat}{a:SV}{w w':World}{v:Value}(h:RS S a w v)(hb:Below w.heap.size w w'):RS S a w' v:=by
 obtain⟨l,e,h⟩:=h;exact⟨l,e,h.step (Wch.of_below hb)⟩
theorem tupPlus(i k:Nat)(x:List Value)(d e di ei:WD)(bv bw:Nat)(lv lw:List Value)(w:World)(hT:Tab w)(h:Ops E (.one k) w x)(hk:kind5 k)(cV:Cs w bv lv 32)(cW:Cs w bw lw 32)(rV:WRd w lv d)(rW:WRd w lw e)(hi:d.parts[i]? =some di)(hj:e.parts[i]? =some ei)
 (hc:chk k di)(hc':chk k ei)(sd:SzK di)(se:SzK ei)(bd:bits di)(be:bits ei)(h3:d.parts.length<=3)(h3':e.parts.length<=3):Calls prog 101 #[.int .i64 (i:Int),.agg x.toArray,.pointer (some ⟨bv,0,none⟩),.pointer (some ⟨bw,0,none⟩)] w (RetX 0 w (dOf (plusK k (takeK k di) (takeK k ei)))):=by
 obtain⟨c,cl,z,o,p,t,s,b,f,g,rfl,⟨n0,A0,rfl,_⟩,⟨n1,A1,rfl,_⟩,⟨n2,A2,rfl,_⟩,⟨n3,A3,rfl,_⟩,⟨n4,A4,rfl,E4,h4⟩,⟨n5,A5,rfl,E5,h5⟩,⟨n7,A7,rfl,_⟩,⟨n6,A6,rfl⟩,⟨n8,A8,rfl⟩,⟨n9,A9,rfl⟩,_⟩:=h.out;unfold Ent at E4 E5;clear h;obtain⟨hb0,c1,c2⟩:=blk2 w [.func (.func n0) #[] A0,.func (.func n1) #[] A1,.func (.func n2) #[] A2,.func (.func n3) #[] A3,.func (.func n4) #[] A4,.func (.func n5) #[] A5,.func (.func n6) #[] A6,.func (.func n7) #[] A7,.func (.func n8) #[] A8,.func (.func n9) #[] A9] [.bool false,.slice none 0 0,.slice none 0 0,.int .i64 0,.bool false,.int .u64 0,.slice none 0 0,.slice none 0 0] 63 32;obtain⟨a0,a1,a2,a3,a4,a5,a6,a7,a8,av,nv,cv,rfl,_,_,_,hpv⟩:=rV.shape;obtain⟨a0',a1',a2',a3',a4',a5',a6',a7',a8',au,nu,cu,rfl,_,_,_,hpu⟩:=rW.shape;obtain⟨v0,v1,A,n,c,B,m,e,P,p,r,Q,q,s,rfl,hvb,hwv,hatv⟩:=hpv.at8 hi;obtain⟨u0,u1,A',n',c',B',m',e',P',p',r',Q',q',s',rfl,hub,hwu,hatu⟩:=hpu.at8 hj;have hiv:i<nv:=by have:=hpv.len;have:=(List.getElem?_eq_some_iff.1 hi).1;omega
 have hiu:i<nu:=by have:=hpu.len;have:=(List.getElem?_eq_some_iff.1 hj).1;omega
 have hlt:(i:Int)<(nv:Int):=by omega
 have hlt':(i:Int)<(nu:Int):=by omega
 have h0i:¬(i:Int)<0:=by omega
 obtain⟨W0,hW0⟩:∃W,W=((w.alloc (.cells #[.func (.func n0) #[] A0,.func (.func n1) #[] A1,.func (.func n2) #[] A2,.func (.func n3) #[] A3,.func (.func n4) #[] A4,.func (.func n5) #[] A5,.func (.func n6) #[] A6,.func (.func n7) #[] A7,.func (.func n8) #[] A8,.func (.func n9) #[] A9] 63)).alloc (.cells #[.bool false,.slice none 0 0,.slice none 0 0,.int .i64 0,.bool false,.int .u64 0,.slice none 0 0,.slice none 0 0] 32)):=⟨_,rfl⟩;have HWX:=hid hW0.symm;have hbw:Below w.heap.size w W0.drew:=by rw [hW0];exact hb0.drew
 have KX:Hid (∀wx,Below W0.drew.heap.size W0.drew wx->wx.cell? ⟨w.heap.size,4,none⟩=some (.func (.func n4) #[] A4)/\(wx.cell? ⟨bv,7,none⟩=some (.slice (some ⟨v0,v1,none⟩) nv cv)/\wx.cell? ⟨bw,7,none⟩=some (.slice (some ⟨u0,u1,none⟩) nu cu))/\At8 wx v0 (v1+i*8) (.bool di.neg) (.slice A n c) (.slice B m e) (.int .i64 di.c) (.bool di.i) (.int .u64 di.s) (.slice P p r) (.slice Q q s)/\At8 wx u0 (u1+i*8) (.bool ei.neg) (.slice A' n' c') (.slice B' m' e') (.int .i64 ei.c) (.bool ei.i) (.int .u64 ei.s) (.slice P' p' r') (.slice Q' q' s')):=hid (fun wx hB=>by
  have hbx:=bt hbw hB;have c1x:Cs W0.drew w.heap.size [.func (.func n0) #[] A0,.func (.func n1) #[] A1,.func (.func n2) #[] A2,.func (.func n3) #[] A3,.func (.func n4) #[] A4,.func (.func n5) #[] A5,.func (.func n6) #[] A6,.func (.func n7) #[] A7,.func (.func n8) #[] A8,.func (.func n9) #[] A9] 63:=by rw [hW0];exact c1.drew
  exact⟨(c1x.below hB c1x.lt).cell rfl,⟨(cV.below hbx cV.lt).cell rfl,(cW.below hbx cW.lt).cell rfl⟩,hatv.below hbx hvb,hatu.below hbx hub⟩)
 have HCALL:Hid (∀wx,Below W0.drew.heap.size W0.drew wx->Calls prog n4 (#[.agg #[.bool di.neg,.slice A n c,.slice B m e,.int .i64 di.c,.bool di.i,.int .u64 di.s,.slice P p r,.slice Q q s],.agg #[.bool ei.neg,.slice A' n' c',.slice B' m' e',.int .i64 ei.c,.bool ei.i,.int .u64 ei.s,.slice P' p' r',.slice Q' q' s']]++A4) wx (RetX 0 wx (dOf (plusK k (takeK k di) (takeK k ei))))):=hid (fun wx hB=>by
  have hbx:=bt hbw hB;have:=h4 wx hbx _ _ ⟨_,_,di,ei,rfl,hT.below hbx,hwv.keep hbx,hwu.keep hbx,sd,se,Qf6 hk.1 hk.2 hc,Qf6 hk.1 hk.2 hc',bd,be,rfl⟩;rw [Qbj hc,Qbj hc'];exact this)
 have HB:=hid hbw;have K3:Hid (Cs W0.drew (w.heap.size+1) [.bool false,.slice none 0 0,.slice none 0 0,.int .i64 0,.bool false,.int .u64 0,.slice none 0 0,.slice none 0 0] 32):=hid (by rw [hW0];exact c2.drew);obtain⟨S0,hS0⟩:∃S,W0.drew.heap.size=S:=⟨_,rfl⟩;have HS0:Hid (w.heap.size+1<S0/\S0=W0.drew.heap.size):=hid ⟨by rw [<-hS0];exact K3.out.lt,hS0.symm⟩;clear hpv hpu hatv hatu hvb hub hwv hwu hi hj hc hc' sd se bd be h3 h3' hiv hiu cV cW rV rW h4 h5 hT c1 c2 hb0 hbw hW0 hS0 E5;go_enter func101,ntmps101;go_wp2_with fail
 rw [HWX.out];refine Qan 13 (7::8::9::10::11::12::13::14::15::16::17::18::19::[]) (Sq.val (.pointer (some ⟨w.heap.size,4,none⟩))::Sq.val (.func (.func n4) #[] A4)::Sq.val (.pointer (some ⟨bv,7,none⟩))::Sq.val (.slice (some ⟨v0,v1,none⟩) nv cv)::Sq.val (.int .i64 (i:Int))::Sq.val (.pointer (some ⟨v0,v1+i*8,none⟩))::Sq.val (.agg #[.bool di.neg,.slice A n c,.slice B m e,.int .i64 di.c,.bool di.i,.int .u64 di.s,.slice P p r,.slice Q q s])::Sq.val (.pointer (some ⟨bw,7,none⟩))::Sq.val (.slice (some ⟨u0,u1,none⟩) nu cu)::Sq.val (.int .i64 (i:Int))::Sq.val (.pointer (some ⟨u0,u1+i*8,none⟩))::Sq.val (.agg #[.bool ei.neg,.slice A' n' c',.slice B' m' e',.int .i64 ei.c,.bool ei.i,.int .u64 ei.s,.slice P' p' r',.slice Q' q' s'])::Sq.st (fun w a=>RS S0 (plusK k (takeK k di) (takeK k ei)) w a)::[]) (by kernel_rfl) (by kernel_rfl) (by kernel_rfl) (by kernel_rfl) ?step 1 (by kernel_rfl) _ rfl ?fin
 case step=>
  intro i hi oi ho f wx hB hdep K hK;simp only [frontAct,zf1,zf2,zf3,zf4,zf5]at hK⊢;obtain⟨k0,⟨y0,y1⟩,⟨x0,x1,x2,x3,x4,x5,x6,x7⟩,⟨z0,z1,z2,z3,z4,z5,z6,z7⟩⟩:=KX.out wx hB;iterate 13 rcases lt_or_eq_of_le (le_of_lt_succ hi)with hi|rfl
  exact absurd hi (not_lt_zero _);all_goals
   obtain rfl:=Option.some.inj ho;clear ho;simp only [Act.put,zf3,zf4,zf5]at hK
  rotate_left 12
  ·simp [gOf6,Sq.holds,Region.binds]at hdep
   simp only [hdep]at hK⊢;go_simp;refine(HCALL.out wx hB).mono ?_;rintro e0 w' ⟨l,rfl,hl,hb⟩;exact hK (.agg l.toArray) w' (gs6 rfl (fun w2 h2=>RS.below ⟨l,rfl,hl.mono (le_refl _) (by have:=HS0.out.2;have:=hB.size;omega)⟩ h2)) hb (bt hB hb) (nb6 rfl rfl)
  all_goals simp [gOf6,Sq.holds,Region.binds]at hdep
  all_goals try simp only [hdep]at hK⊢
  all_goals go_simp
  all_goals exact hK _ wx (gv6 rfl) (Below.refl _ _) hB (nb6 rfl rfl)
 case fin=>
  intro f wx hB hG hne;have e19:RS S0 (plusK k (takeK k di) (takeK k ei)) wx (f 19):=ds6 (hG 12 (by decide)) rfl;clear hG hne;simp only [frontAct,zf1,zf2,zf3,zf4,zf5];generalize f 19=fL at*
  obtain⟨l,rfl,hl⟩:=e19;obtain⟨A',n',c',B',m',e',P',p',r',Q',q',s',rfl,_⟩:=hl.rd.shape;have k3:=K3.out.below hB K3.out.lt;have HEND:=hid (bt HB.out hB);have HL:=hid hl;clear hB hl;obtain⟨g0,g1,g2,g3,g4,g5,g6,g7⟩:=k3.f8;obtain⟨b0,b1,b2,b3,b4,b5,b6,b7⟩:=k3.c8;refine wpAny_ready (rs:=[13]) (by kernel_rfl) (by simp) ?_;refine AllReady.cons rfl (fun K hK=>?_) AllReady.nil;have HQ:=hid hK;clear hK;go_simp;clear g0 g1 g2 g3 g4 g5 g6 g7 b0 b1 b2 b3 b4 b5 b6 b7;refine HQ.out _ _ ?_;clear HQ K;refine wpAny_done (by kernel_rfl) ?_ _;go_wp2_with fail
  refine Qak (l:=[.bool (dOf (plusK k (takeK k di) (takeK k ei))).neg,.slice A' n' c',.slice B' m' e',.int .i64 (dOf (plusK k (takeK k di) (takeK k ei))).c,.bool (dOf (plusK k (takeK k di) (takeK k ei))).i,.int .u64 (dOf (plusK k (takeK k di) (takeK k ei))).s,.slice P' p' r',.slice Q' q' s']) results101 underlying32 (by kernel_rfl) rfl (Qaj k3 rfl _ _ _ _ _ _ _ _) rfl ?_;exact Qd2 HL.out HS0.out.1 (zero_le _) (by omega) HEND.out k3 rfl
theorem tupTimes(i k:Nat)(x:List Value)(d e di ei:WD)(bv bw:Nat)(lv lw:List Value)(w:World)(hT:Tab w)(h:Ops E (.one k) w x)(hk:kind5 k)(cV:Cs w bv lv 32)(cW:Cs w bw lw 32)(rV:WRd w lv d)(rW:WRd w lw e)(hi:d.parts[i]? =some di)(hj:e.parts[i]? =some ei)
 (hc:chk k di)(hc':chk k ei)(sd:SzK di)(se:SzK ei)(bd:bits di)(be:bits ei)(h3:d.parts.length<=3)(h3':e.parts.length<=3):Calls prog 103 #[.int .i64 (i:Int),.agg x.toArray,.pointer (some ⟨bv,0,none⟩),.pointer (some ⟨bw,0,none⟩)] w (RetX 0 w (dOf (timesK k (takeK k di) (takeK k ei)))):=by
 obtain⟨c,cl,z,o,p,t,s,b,f,g,rfl,⟨n0,A0,rfl,_⟩,⟨n1,A1,rfl,_⟩,⟨n2,A2,rfl,_⟩,⟨n3,A3,rfl,_⟩,⟨n4,A4,rfl,E4,h4⟩,⟨n5,A5,rfl,E5,h5⟩,⟨n7,A7,rfl,_⟩,⟨n6,A6,rfl⟩,⟨n8,A8,rfl⟩,⟨n9,A9,rfl⟩,_⟩:=h.out;unfold Ent at E4 E5;clear h;obtain⟨hb0,c1,c2⟩:=blk2 w [.func (.func n0) #[] A0,.func (.func n1) #[] A1,.func (.func n2) #[] A2,.func (.func n3) #[] A3,.func (.func n4) #[] A4,.func (.func n5) #[] A5,.func (.func n6) #[] A6,.func (.func n7) #[] A7,.func (.func n8) #[] A8,.func (.func n9) #[] A9] [.bool false,.slice none 0 0,.slice none 0 0,.int .i64 0,.bool false,.int .u64 0,.slice none 0 0,.slice none 0 0] 63 32;obtain⟨a0,a1,a2,a3,a4,a5,a6,a7,a8,av,nv,cv,rfl,_,_,_,hpv⟩:=rV.shape;obtain⟨a0',a1',a2',a3',a4',a5',a6',a7',a8',au,nu,cu,rfl,_,_,_,hpu⟩:=rW.shape;obtain⟨v0,v1,A,n,c,B,m,e,P,p,r,Q,q,s,rfl,hvb,hwv,hatv⟩:=hpv.at8 hi;obtain⟨u0,u1,A',n',c',B',m',e',P',p',r',Q',q',s',rfl,hub,hwu,hatu⟩:=hpu.at8 hj;have hiv:i<nv:=by have:=hpv.len;have:=(List.getElem?_eq_some_iff.1 hi).1;omega
 have hiu:i<nu:=by have:=hpu.len;have:=(List.getElem?_eq_some_iff.1 hj).1;omega
 have hlt:(i:Int)<(nv:Int):=by omega
 have hlt':(i:Int)<(nu:Int):=by omega
 have h0i:¬(i:Int)<0:=by omega
 obtain⟨W0,hW0⟩:∃W,W=((w.alloc (.cells #[.func (.func n0) #[] A0,.func (.func n1) #[] A1,.func (.func n2) #[] A2,.func (.func n3) #[] A3,.func (.func n4) #[] A4,.func (.func n5) #[] A5,.func (.func n6) #[] A6,.func (.func n7) #[] A7,.func (.func n8) #[] A8,.func (.func n9) #[] A9] 63)).alloc (.cells #[.bool false,.slice none 0 0,.slice none 0 0,.int .i64 0,.bool false,.int .u64 0,.slice none 0 0,.slice none 0 0] 32)):=⟨_,rfl⟩;have HWX:=hid hW0.symm;have hbw:Below w.heap.size w W0.drew:=by rw [hW0];exact hb0.drew
 have KX:Hid (∀wx,Below W0.drew.heap.size W0.drew wx->wx.cell? ⟨w.heap.size,5,none⟩=some (.func (.func n5) #[] A5)/\(wx.cell? ⟨bv,7,none⟩=some (.slice (some ⟨v0,v1,none⟩) nv cv)/\wx.cell? ⟨bw,7,none⟩=some (.slice (some ⟨u0,u1,none⟩) nu cu))/\At8 wx v0 (v1+i*8) (.bool di.neg) (.slice A n c) (.slice B m e) (.int .i64 di.c) (.bool di.i) (.int .u64 di.s) (.slice P p r) (.slice Q q s)/\At8 wx u0 (u1+i*8) (.bool ei.neg) (.slice A' n' c') (.slice B' m' e') (.int .i64 ei.c) (.bool ei.i) (.int .u64 ei.s) (.slice P' p' r') (.slice Q' q' s')):=hid (fun wx hB=>by
  have hbx:=bt hbw hB;have c1x:Cs W0.drew w.heap.size [.func (.func n0) #[] A0,.func (.func n1) #[] A1,.func (.func n2) #[] A2,.func (.func n3) #[] A3,.func (.func n4) #[] A4,.func (.func n5) #[] A5,.func (.func n6) #[] A6,.func (.func n7) #[] A7,.func (.func n8) #[] A8,.func (.func n9) #[] A9] 63:=by rw [hW0];exact c1.drew
  exact⟨(c1x.below hB c1x.lt).cell rfl,⟨(cV.below hbx cV.lt).cell rfl,(cW.below hbx cW.lt).cell rfl⟩,hatv.below hbx hvb,hatu.below hbx hub⟩)
 have HCALL:Hid (∀wx,Below W0.drew.heap.size W0.drew wx->Calls prog n5 (#[.agg #[.bool di.neg,.slice A n c,.slice B m e,.int .i64 di.c,.bool di.i,.int .u64 di.s,.slice P p r,.slice Q q s],.agg #[.bool ei.neg,.slice A' n' c',.slice B' m' e',.int .i64 ei.c,.bool ei.i,.int .u64 ei.s,.slice P' p' r',.slice Q' q' s']]++A5) wx (RetX 0 wx (dOf (timesK k (takeK k di) (takeK k ei))))):=hid (fun wx hB=>by
  have hbx:=bt hbw hB;have:=h5 wx hbx _ _ ⟨_,_,di,ei,rfl,hT.below hbx,hwv.keep hbx,hwu.keep hbx,sd,se,Qf6 hk.1 hk.2 hc,Qf6 hk.1 hk.2 hc',bd,be,rfl⟩;rw [Qbj hc,Qbj hc'];exact this)
 have HB:=hid hbw;have K3:Hid (Cs W0.drew (w.heap.size+1) [.bool false,.slice none 0 0,.slice none 0 0,.int .i64 0,.bool false,.int .u64 0,.slice none 0 0,.slice none 0 0] 32):=hid (by rw [hW0];exact c2.drew);obtain⟨S0,hS0⟩:∃S,W0.drew.heap.size=S:=⟨_,rfl⟩;have HS0:Hid (w.heap.size+1<S0/\S0=W0.drew.heap.size):=hid ⟨by rw [<-hS0];exact K3.out.lt,hS0.symm⟩;clear hpv hpu hatv hatu hvb hub hwv hwu hi hj hc hc' sd se bd be h3 h3' hiv hiu cV cW rV rW h4 h5 hT c1 c2 hb0 hbw hW0 hS0 E4;go_enter func103,ntmps103;go_wp2_with fail
 rw [HWX.out];refine Qan 13 (7::8::9::10::11::12::13::14::15::16::17::18::19::[]) (Sq.val (.pointer (some ⟨w.heap.size,5,none⟩))::Sq.val (.func (.func n5) #[] A5)::Sq.val (.pointer (some ⟨bv,7,none⟩))::Sq.val (.slice (some ⟨v0,v1,none⟩) nv cv)::Sq.val (.int .i64 (i:Int))::Sq.val (.pointer (some ⟨v0,v1+i*8,none⟩))::Sq.val (.agg #[.bool di.neg,.slice A n c,.slice B m e,.int .i64 di.c,.bool di.i,.int .u64 di.s,.slice P p r,.slice Q q s])::Sq.val (.pointer (some ⟨bw,7,none⟩))::Sq.val (.slice (some ⟨u0,u1,none⟩) nu cu)::Sq.val (.int .i64 (i:Int))::Sq.val (.pointer (some ⟨u0,u1+i*8,none⟩))::Sq.val (.agg #[.bool ei.neg,.slice A' n' c',.slice B' m' e',.int .i64 ei.c,.bool ei.i,.int .u64 ei.s,.slice P' p' r',.slice Q' q' s'])::Sq.st (fun w a=>RS S0 (timesK k (takeK k di) (takeK k ei)) w a)::[]) (by kernel_rfl) (by kernel_rfl) (by kernel_rfl) (by kernel_rfl) ?step 1 (by kernel_rfl) _ rfl ?fin
 case step=>
  intro i hi oi ho f wx hB hdep K hK;simp only [frontAct,zf1,zf2,zf3,zf4,zf5]at hK⊢;obtain⟨k0,⟨y0,y1⟩,⟨x0,x1,x2,x3,x4,x5,x6,x7⟩,⟨z0,z1,z2,z3,z4,z5,z6,z7⟩⟩:=KX.out wx hB;iterate 13 rcases lt_or_eq_of_le (le_of_lt_succ hi)with hi|rfl
  exact absurd hi (not_lt_zero _);all_goals
   obtain rfl:=Option.some.inj ho;clear ho;simp only [Act.put,zf3,zf4,zf5]at hK
  rotate_left 12
  ·simp [gOf6,Sq.holds,Region.binds]at hdep
   simp only [hdep]at hK⊢;go_simp;refine(HCALL.out wx hB).mono ?_;rintro e0 w' ⟨l,rfl,hl,hb⟩;exact hK (.agg l.toArray) w' (gs6 rfl (fun w2 h2=>RS.below ⟨l,rfl,hl.mono (le_refl _) (by have:=HS0.out.2;have:=hB.size;omega)⟩ h2)) hb (bt hB hb) (nb6 rfl rfl)
  all_goals simp [gOf6,Sq.holds,Region.binds]at hdep
  all_goals try simp only [hdep]at hK⊢
  all_goals go_simp
  all_goals exact hK _ wx (gv6 rfl) (Below.refl _ _) hB (nb6 rfl rfl)
 case fin=>
  intro f wx hB hG hne;have e19:RS S0 (timesK k (takeK k di) (takeK k ei)) wx (f 19):=ds6 (hG 12 (by decide)) rfl;clear hG hne;simp only [frontAct,zf1,zf2,zf3,zf4,zf5];generalize f 19=fL at*
  obtain⟨l,rfl,hl⟩:=e19;obtain⟨A',n',c',B',m',e',P',p',r',Q',q',s',rfl,_⟩:=hl.rd.shape;have k3:=K3.out.below hB K3.out.lt;have HEND:=hid (bt HB.out hB);have HL:=hid hl;clear hB hl;obtain⟨g0,g1,g2,g3,g4,g5,g6,g7⟩:=k3.f8;obtain⟨b0,b1,b2,b3,b4,b5,b6,b7⟩:=k3.c8;refine wpAny_ready (rs:=[13]) (by kernel_rfl) (by simp) ?_;refine AllReady.cons rfl (fun K hK=>?_) AllReady.nil;have HQ:=hid hK;clear hK;go_simp;clear g0 g1 g2 g3 g4 g5 g6 g7 b0 b1 b2 b3 b4 b5 b6 b7;refine HQ.out _ _ ?_;clear HQ K;refine wpAny_done (by kernel_rfl) ?_ _;go_wp2_with fail
  refine Qak (l:=[.bool (dOf (timesK k (takeK k di) (takeK k ei))).neg,.slice A' n' c',.slice B' m' e',.int .i64 (dOf (timesK k (takeK k di) (takeK k ei))).c,.bool (dOf (timesK k (takeK k di) (takeK k ei))).i,.int .u64 (dOf (timesK k (takeK k di) (takeK k ei))).s,.slice P' p' r',.slice Q' q' s']) results103 underlying32 (by kernel_rfl) rfl (Qaj k3 rfl _ _ _ _ _ _ _ _) rfl ?_;exact Qd2 HL.out HS0.out.1 (zero_le _) (by omega) HEND.out k3 rfl
variable {E:Rg->World->Value->Value->Value->Prop}
theorem Qer:∀ {ks:List Nat} {ds:List WD},chkL ks ds↔ds.length=ks.length/\∀(j k:Nat) (d:WD),ks[j]? =some k->ds[j]? =some d->chk k d
 |[],[]=>⟨fun _=>⟨rfl,fun j k d h=>by simp at h⟩,fun _=>trivial⟩
 |[],_::_=>⟨fun h=>h.elim,fun h=>by simp at h⟩
 |_::_,[]=>⟨fun h=>h.elim,fun h=>by simp at h⟩
 |k::ks,d::ds=>by
  constructor
  ·intro h
   obtain⟨e1,e2⟩:=Qer.1 h.2;refine⟨by rw [List.length_cons,List.length_cons,e1],fun j k' d' hk hd=>?_⟩;cases j with
   |zero=>
    obtain rfl:=Option.some.inj (show some k=some k' from hk);obtain rfl:=Option.some.inj (show some d=some d' from hd);exact h.1
   |succ j=>
    rw [List.getElem?_cons_succ]at hk hd;exact e2 j k' d' hk hd
  ·rintro⟨e1,e2⟩
   exact⟨e2 0 k d rfl rfl,Qer.2 ⟨by simpa using e1,fun j k' d' hk hd=>e2 (j+1) k' d' (by rw [List.getElem?_cons_succ];exact hk) (by rw [List.getElem?_cons_succ];exact hd)⟩⟩
theorem Qmi(hE:EOk E)(ks:List Nat)(A:Option Addr)(n c:Nat)(d:WD)(x:List Value)(w:World)(V:Bool)(hT:Tab w)(hP:Parts2 E ks w A n c)(hn:n<=3)(hx:WRd w x d)(sd:SzK d)(H:Hid (tv (chkR (.prod ks) d)=V)):
 Calls prog 93 #[.slice A n c,.agg x.toArray] w (RetV w (.bool V)):=by
 obtain⟨A',n',c',B',m',e',P',p',r',Q,q,s,rfl,h1,h2,h3,h4⟩:=hx.shape;clear hx;show Calls _ _ #[_,.agg #[.bool d.neg,.slice A' n' c',.slice B' m' e',.int .i64 d.c,.bool d.i,.int .u64 d.s,.slice P' p' r',.slice Q q s]] _ _;obtain⟨hb0,c1⟩:=blk1 w [.bool d.neg,.slice A' n' c',.slice B' m' e',.int .i64 d.c,.bool d.i,.int .u64 d.s,.slice P' p' r',.slice none 0 0] 32;obtain⟨VB,hVB⟩:∃V,eqD (.mk d.neg d.ln d.ld d.c d.i d.s d.poly []) blankD=V:=⟨_,rfl⟩;have HVB:Hid (tv d.onlyL=VB):=hid (by rw [<-hVB];exact(Qlq (Qs2 d)).symm);have HC:=hid (Qdb _ _ _ VB (WRd.made (neg:=d.neg) (k:=d.c) (i:=d.i) (s:=d.s) (h1.below hb0) (h2.below hb0) (h3.below hb0) (WPs.nil _ none 0)) sd.sze.noW (hid hVB));have HL:=hid hP.len;have HW:=hid h4;have HWL:=hid h4.len;have HP:=hid hP;have HT:=hid hT;have HN:=hid hn;have HSD:=hid sd.open.2.2.2.2.2;have HQ:=hid sd.open.2.2.2.2.1;clear hVB h1 h2 h3 h4 sd hP hT hn;go_enter func93,ntmps93;go_wp2_with fail
 refine HC.out.mono ?_;rintro e w1 ⟨rfl,hb1⟩;replace hb0:=bt hb0 hb1;clear hb1 HC c1;cases VB
 ·have HF:Hid (false=V):=hid (by
   rw [<-H.out];symm;exact Qag (fun hh=>by have h:=HVB.out;rw [Qbf hh.1]at h;cases h))
  go_wp2_with fail
  have:=HF.out;subst this;go_ret;exact⟨rfl,hb0⟩
 ·by_cases hqn:q=n
  ·have g0:((q:Int) !=n)=false:=by rw [hqn];simp
   have HQN:=hid hqn;clear hqn;go_wp2_with fail
   have HB:=hid hb0;clear hb0
   go_loopw [23] (fun i wr=> ∃k:Nat,k<=n/\i=.int .i64 (k:Int)/\Below w.heap.size w wr/\Hid (∀(j k':Nat) (d':WD),j<k->ks[j]? =some k'->d.parts[j]? =some d'->chk k' d')) (fun i _=>(n-intOf i).toNat)
   case atStart=>exact⟨0,zero_le _,rfl,HB.out,fun j k' d' hj=>absurd hj (not_lt_zero _)⟩
   case round=>
    obtain⟨k,hk,rfl,hb,HO⟩:=hrel;have HB:=hid hb;by_cases hkn:k<n
    ·obtain⟨kk,hkk⟩:∃m,ks[k]? =some m:=⟨ks[k]'(by have:=HL.out;omega),List.getElem?_eq_getElem _⟩
     obtain⟨dj,hdj⟩:∃m,d.parts[k]? =some m:=⟨d.parts[k]'(by have:=HWL.out;have:=HQN.out;omega),List.getElem?_eq_getElem _⟩;obtain⟨b,o,nn,AA,rfl,hbq,hops,hat⟩:=HP.out.at10 hkk;obtain⟨b2,o2,A2,n2,c2,B2,m2,e2,P2,p2,r2,Q2,q2,s2,rfl,hbq2,hwr2,hat2⟩:=HW.out.at8 hdj;have hlt:(k:Int)<(n:Int):=(by omega);have hltq:(k:Int)<(q:Int):=(by have:=HQN.out;omega);have h0i:¬(k:Int)<0:=(by omega);have hw1:IntKind.i64.wrap ((k:Int)+1)=(k:Int)+1:=IntWalk.i64_in _ (by have:=HN.out;omega);obtain⟨x0,x1,x2,x3,x4,x5,x6,x7,x8,x9⟩:=hat.below hb hbq;obtain⟨V1,hV1⟩:∃V1,tv (chk kk dj)=V1:=⟨_,rfl⟩;obtain⟨hbn,cn⟩:=blk1 wr [.func (.func (nn 0)) #[] (AA 0),.func (.func (nn 1)) #[] (AA 1),.func (.func (nn 2)) #[] (AA 2),.func (.func (nn 3)) #[] (AA 3),.func (.func (nn 4)) #[] (AA 4),.func (.func (nn 5)) #[] (AA 5),.func (.func (nn 6)) #[] (AA 6),.func (.func (nn 7)) #[] (AA 7),.func (.func (nn 8)) #[] (AA 8),.func (.func (nn 9)) #[] (AA 9)] 63;obtain⟨wrx,hwrx⟩:∃W,W=wr.alloc (.cells #[.func (.func (nn 0)) #[] (AA 0),.func (.func (nn 1)) #[] (AA 1),.func (.func (nn 2)) #[] (AA 2),.func (.func (nn 3)) #[] (AA 3),.func (.func (nn 4)) #[] (AA 4),.func (.func (nn 5)) #[] (AA 5),.func (.func (nn 6)) #[] (AA 6),.func (.func (nn 7)) #[] (AA 7),.func (.func (nn 8)) #[] (AA 8),.func (.func (nn 9)) #[] (AA 9)] 63):=⟨_,rfl⟩;have HWX:=hid hwrx.symm;have hbw:Below w.heap.size w wrx.drew:=(by rw [hwrx];exact(bt hb hbn).drew);have KX:Hid (∀wx,Below wrx.drew.heap.size wrx.drew wx->wx.cell? ⟨wr.heap.size,0,none⟩=some (.func (.func (nn 0)) #[] (AA 0))/\At8 wx b2 (o2+k*8) (.bool dj.neg) (.slice A2 n2 c2) (.slice B2 m2 e2) (.int .i64 dj.c) (.bool dj.i) (.int .u64 dj.s) (.slice P2 p2 r2) (.slice Q2 q2 s2)):=hid (fun wx hB=>by
      have hbx:=bt hbw hB;have cnx:Cs wrx.drew wr.heap.size [.func (.func (nn 0)) #[] (AA 0),.func (.func (nn 1)) #[] (AA 1),.func (.func (nn 2)) #[] (AA 2),.func (.func (nn 3)) #[] (AA 3),.func (.func (nn 4)) #[] (AA 4),.func (.func (nn 5)) #[] (AA 5),.func (.func (nn 6)) #[] (AA 6),.func (.func (nn 7)) #[] (AA 7),.func (.func (nn 8)) #[] (AA 8),.func (.func (nn 9)) #[] (AA 9)] 63:=(by rw [hwrx];exact cn.drew);exact⟨(cnx.below hB cnx.lt).cell rfl,hat2.below hbx hbq2⟩)
     obtain⟨zc,zcl,zz,zo,zp,zt,zs,zb,zf,zg,eL,hchk,_⟩:=hops.out;simp only [List.cons.injEq,and_true]at eL;obtain⟨rfl,rfl,rfl,rfl,rfl,rfl,rfl,rfl,rfl,rfl⟩:=eL;obtain⟨n0,A0,e0,E0,hchk⟩:=hchk;injection e0 with e0 _ e1;injection e0 with e0;subst e0 e1;unfold Ent at E0;have HCALL:Hid (∀wx,Below wrx.drew.heap.size wrx.drew wx->Calls prog (nn 0) (#[.agg #[.bool dj.neg,.slice A2 n2 c2,.slice B2 m2 e2,.int .i64 dj.c,.bool dj.i,.int .u64 dj.s,.slice P2 p2 r2,.slice Q2 q2 s2]]++AA 0) wx (RetV wx (.bool V1))):=hid (fun wx hB=>by
      have hbx:=bt hbw hB;exact hchk wx hbx _ _ ⟨_,dj,V1,rfl,HT.out.below hbx,hwr2.keep hbx,HSD.out dj (List.mem_of_getElem? hdj),hid hV1,rfl⟩)
     have HV1:=hid hV1;have HKK:=hid hkk;have HD:=hid hdj;have HK:=hid hkn;have HB3:=hid hbw;clear hV1 hkk hdj hkn hbw hb hbn cn hops hat hat2 hbq hbq2 hwr2 hchk hwrx;go_wp2_with fail
     rw [HWX.out];refine Qan 8 (28::29::30::31::32::33::34::35::[]) (Sq.val (.pointer (some ⟨wr.heap.size,0,none⟩))::Sq.val (.func (.func (nn 0)) #[] (AA 0))::Sq.val (.slice (some ⟨b2,o2,none⟩) q s)::Sq.val (.int .i64 (k:Int))::Sq.val (.pointer (some ⟨b2,o2+k*8,none⟩))::Sq.val (.agg #[.bool dj.neg,.slice A2 n2 c2,.slice B2 m2 e2,.int .i64 dj.c,.bool dj.i,.int .u64 dj.s,.slice P2 p2 r2,.slice Q2 q2 s2])::Sq.val (.bool V1)::Sq.val (.bool (!V1))::[]) (by kernel_rfl) (by kernel_rfl) (by kernel_rfl) (by kernel_rfl) ?step 0 (by kernel_rfl) _ rfl ?fin
     case step=>
      intro i hi oi ho f wx hB hdep K hK;simp only [frontAct,zf1,zf2,zf3,zf4,zf5]at hK⊢;obtain⟨k0,⟨x0,x1,x2,x3,x4,x5,x6,x7⟩⟩:=KX.out wx hB;iterate 8 rcases lt_or_eq_of_le (le_of_lt_succ hi)with hi|rfl
      exact absurd hi (not_lt_zero _);all_goals
       obtain rfl:=Option.some.inj ho;clear ho;simp only [Act.put,zf3,zf4,zf5]at hK
      rotate_left 6
      ·simp [gOf6,Sq.holds,Region.binds]at hdep
       simp only [hdep]at hK⊢;go_simp;refine(HCALL.out wx hB).mono ?_;rintro e0 w' ⟨rfl,hb⟩;exact hK (.bool V1) w' (gv6 rfl) hb (bt hB hb) (nb6 rfl rfl)
      rotate_left
      all_goals simp [gOf6,Sq.holds,Region.binds]at hdep
      all_goals try simp only [hdep]at hK⊢
      all_goals go_simp
      all_goals exact hK _ wx (gv6 rfl) (Below.refl _ _) hB (nb6 rfl rfl)
     case fin=>
      intro f wx hB hG hne;have eL:=dv6 (a:=f 35) (hG 7 (by decide)) rfl;clear hG hne;simp only [frontAct,zf1,zf2,zf3,zf4,zf5];generalize f 35=fL at*;subst eL;have HEND:=hid (bt HB3.out hB);clear hB;refine wpAny_done (by kernel_rfl) ?_ _;cases V1
      ·have HF:Hid (false=V):=hid (by
        rw [<-H.out];symm;refine Qag (fun hh=>?_);have h1:=(Qer.1 hh.2).2 k kk dj HKK.out HD.out;have h2:=HV1.out;rw [Qbf h1]at h2;cases h2)
       go_wp2_with fail
       have:=HF.out;subst this;go_ret;exact⟨rfl,HEND.out⟩
      ·go_wp2_with fail
       go_roundw
       case rel=>
        refine⟨k+1,HK.out,congrArg (Value.int _) (by omega),HEND.out,fun j k' d' hj h1 h2=>?_⟩;rcases Nat.lt_or_ge j k with hjk|hjk
        ·exact HO.out j k' d' hjk h1 h2
        ·obtain rfl:j=k:=by omega
         rw [HKK.out]at h1;rw [HD.out]at h2;obtain rfl:=Option.some.inj h1;obtain rfl:=Option.some.inj h2;exact Qce.1 HV1.out
       case measure=>simp [intOf];have:=HK.out;omega
    ·have HF:Hid (true=V):=hid (by
      rw [<-H.out];symm;refine Qbf ⟨Qce.1 HVB.out,Qer.2 ⟨by have:=HWL.out;have:=HL.out;have:=HQN.out;omega,fun j k' d' h1 h2=>HO.out j k' d' (by have:=(List.getElem?_eq_some_iff.1 h1).1;have:=HL.out;omega) h1 h2⟩⟩)
     have hlt:¬(k:Int)<(n:Int):=(by omega);clear hb HO;go_wp2_with fail
     have:=HF.out;subst this;go_ret;exact⟨rfl,HB.out⟩
  ·have g0:((q:Int) !=n)=true:=by simp;omega
   have HF:Hid (false=V):=hid (by
    rw [<-H.out];symm;exact Qag (fun hh=>hqn (by have:=Qbv hh.2;have:=HWL.out;have:=HL.out;omega)))
   clear hqn;go_wp2_with fail
   have:=HF.out;subst this;go_ret;exact⟨rfl,hb0⟩
variable {E:Rg->World->Value->Value->Value->Prop}
theorem Qxn{f:Nat->SV}{ks:List Nat}{i k:Nat}{a:SV}(hk:ks[i]? =some k)(ha:(ks.map f)[i]? =some a):a=f k:=by
 rw [List.getElem?_map,hk]at ha;exact(Option.some.inj ha).symm
theorem Qy6(ks:List Nat)(w:World):Fn w (fv 96) (QEl E ks (ks.map zeroK)):=Fn.plain (Qaz func96 (by kernel_rfl) rfl) fun w' args R ⟨i,k,a,x,hk,ha,e1,hops,hT,e2⟩=>by
 have ea:=Qxn hk ha;subst e1 e2 ea;exact tupZero i k x w' hT hops
theorem el_one(ks:List Nat)(w:World):Fn w (fv 99) (QEl E ks (ks.map oneK)):=Fn.plain (Qaz func99 (by kernel_rfl) rfl) fun w' args R ⟨i,k,a,x,hk,ha,e1,hops,hT,e2⟩=>by
 have ea:=Qxn hk ha;subst e1 e2 ea;exact tupOne i k x w' hT hops
theorem Qy7(ks:List Nat)(hr:okRg (.prod ks))(d e:WD)(hd:chkR (.prod ks) d)(he:chkR (.prod ks) e)(sd:SzK d)(se:SzK e)(bd:bits d)(be:bits e)(bv bw:Nat)(lv lw:List Value)(w:World)(cV:Cs w bv lv 32)(cW:Cs w bw lw 32)(rV:WRd w lv d)(rW:WRd w lw e):
 Fn w (.func (.func 101) #[] #[.pointer (some ⟨bv,0,none⟩),.pointer (some ⟨bw,0,none⟩)]) (QEl E ks (zipK plusK ks (takeL ks d.parts) (takeL ks e.parts))):=by
 refine⟨_,_,rfl,Qaz func101 (by kernel_rfl) rfl,fun w' hb args R ⟨i,k,a,x,hk,ha,e1,hops,hT,e2⟩=>?_⟩;obtain⟨di,hi,hc⟩:=Qid hd.2 hk;obtain⟨ei,hj,hc'⟩:=Qid he.2 hk;have ea:=Qnx (f:=plusK) hk (Qf7 hk hi) (Qf7 hk hj);rw [ha]at ea;obtain rfl:=Option.some.inj ea;subst e1 e2;exact tupPlus i k x d e di ei bv bw lv lw w' hT hops (hr.2.2 k (List.mem_of_getElem? hk)) (cV.below hb cV.lt) (cW.below hb cW.lt) (rV.keep hb) (rW.keep hb) hi hj hc hc' (sd.open.2.2.2.2.2 di (List.mem_of_getElem? hi)) (se.open.2.2.2.2.2 ei (List.mem_of_getElem? hj)) (bd.parts di (List.mem_of_getElem? hi)) (be.parts ei (List.mem_of_getElem? hj)) (by rw [Qbv hd.2];exact hr.2.1) (by rw [Qbv he.2];exact hr.2.1)
theorem Qwf(ks:List Nat)(hr:okRg (.prod ks))(d e:WD)(hd:chkR (.prod ks) d)(he:chkR (.prod ks) e)(sd:SzK d)(se:SzK e)(bd:bits d)(be:bits e)(bv bw:Nat)(lv lw:List Value)(w:World)(cV:Cs w bv lv 32)(cW:Cs w bw lw 32)(rV:WRd w lv d)(rW:WRd w lw e):
 Fn w (.func (.func 103) #[] #[.pointer (some ⟨bv,0,none⟩),.pointer (some ⟨bw,0,none⟩)]) (QEl E ks (zipK timesK ks (takeL ks d.parts) (takeL ks e.parts))):=by
 refine⟨_,_,rfl,Qaz func103 (by kernel_rfl) rfl,fun w' hb args R ⟨i,k,a,x,hk,ha,e1,hops,hT,e2⟩=>?_⟩;obtain⟨di,hi,hc⟩:=Qid hd.2 hk;obtain⟨ei,hj,hc'⟩:=Qid he.2 hk;have ea:=Qnx (f:=timesK) hk (Qf7 hk hi) (Qf7 hk hj);rw [ha]at ea;obtain rfl:=Option.some.inj ea;subst e1 e2;exact tupTimes i k x d e di ei bv bw lv lw w' hT hops (hr.2.2 k (List.mem_of_getElem? hk)) (cV.below hb cV.lt) (cW.below hb cW.lt) (rV.keep hb) (rW.keep hb) hi hj hc hc' (sd.open.2.2.2.2.2 di (List.mem_of_getElem? hi)) (se.open.2.2.2.2.2 ei (List.mem_of_getElem? hj)) (bd.parts di (List.mem_of_getElem? hi)) (be.parts ei (List.mem_of_getElem? hj)) (by rw [Qbv hd.2];exact hr.2.1) (by rw [Qbv he.2];exact hr.2.1)
theorem Qt4(hE:EOk E)(ks:List Nat)(hr:okRg (.prod ks))(bp:Nat)(A:Option Addr)(n c:Nat)(w:World)(hT:Tab w)(cP:Cs w bp [.slice A n c] 91)(hP:Parts2 E ks w A n c)(d:WD)(x:List Value)(V:Bool)(hx:WRd w x d)(sd:SzK d)(H:Hid (tv (chkR (.prod ks) d)=V)):Calls prog 92 #[.agg x.toArray,.pointer (some ⟨bp,0,none⟩)] w (RetV w (.bool V)):=by
 obtain⟨A1,n1,c1,B1,m1,e1,P1,p1,r1,Q1,q1,s1,rfl,_⟩:=hx.shape;show Calls _ _ #[.agg #[.bool d.neg,.slice A1 n1 c1,.slice B1 m1 e1,.int .i64 d.c,.bool d.i,.int .u64 d.s,.slice P1 p1 r1,.slice Q1 q1 s1],_] _ _;obtain⟨hb0,c1⟩:=blk1 w [.bool d.neg,.slice A1 n1 c1,.slice B1 m1 e1,.int .i64 d.c,.bool d.i,.int .u64 d.s,.slice P1 p1 r1,.slice Q1 q1 s1] 32;have HC:=hid (Qmi hE ks A n c d _ _ V (hT.below hb0) (hP.below hE hb0) (by have:=hP.len;have:=hr.2.1;omega) (hx.keep hb0) sd H);have p0:=(cP.below hb0 cP.lt).cell (k:=0) rfl;clear hT hP hx sd H;go_enter func92,ntmps92;go_wp2_with fail
 refine HC.out.mono ?_;rintro e w1 ⟨rfl,hb1⟩;go_wp2_with fail
 go_ret;exact⟨rfl,bt hb0 hb1⟩
theorem Qt5(hE:EOk E)(ks:List Nat)(hr:okRg (.prod ks))(bp:Nat)(A:Option Addr)(n c:Nat)(w:World)(hT:Tab w)(cP:Cs w bp [.slice A n c] 91)(hP:Parts2 E ks w A n c):Calls prog 94 #[.pointer (some ⟨bp,0,none⟩)] w (RetX 0 w (dOfW (zeroR (.prod ks)))):=by
 obtain⟨hb0,cR⟩:=blk1 w [.bool false,.slice none 0 0,.slice none 0 0,.int .i64 0,.bool false,.int .u64 0,.slice none 0 0,.slice none 0 0] 32;have HC:=hid (Qkl hE ks (ks.map zeroK) A n c _ _ (hT.below hb0) (hP.below hE hb0) (by have:=hP.len;have:=hr.1;have:=hr.2.1;omega) (by rw [List.length_map,hP.len]) (Qy6 ks _));have p0:=(cP.below hb0 cP.lt).cell (k:=0) rfl;have HS:=hid cR.lt;clear hT hP;go_enter func94,ntmps94;go_wp2_with fail
 refine HC.out.mono ?_;rintro e w1 ⟨l,rfl,hl,hb1⟩;obtain⟨A',n',c',B',m',e',P',p',r',Q',q',s',rfl,_⟩:=hl.rd.shape;replace hb0:=bt hb0 hb1;replace cR:=cR.below hb1 cR.lt;have HL:=hid hl;clear hb1 hl HC;obtain⟨a0,a1,a2,a3,a4,a5,a6,a7⟩:=cR.c8;obtain⟨f0,f1,f2,f3,f4,f5,f6,f7⟩:=cR.f8;go_wp2_with fail
 refine Qak (l:=[.bool (dOfW (zeroR (.prod ks))).neg,.slice A' n' c',.slice B' m' e',.int .i64 (dOfW (zeroR (.prod ks))).c,.bool (dOfW (zeroR (.prod ks))).i,.int .u64 (dOfW (zeroR (.prod ks))).s,.slice P' p' r',.slice Q' q' s']) results94 underlying32 (by kernel_rfl) rfl (Qaj cR rfl _ _ _ _ _ _ _ _) rfl ?_;exact Qd2 HL.out HS.out (zero_le _) (by omega) hb0 cR rfl
theorem Qt6(hE:EOk E)(ks:List Nat)(hr:okRg (.prod ks))(bp:Nat)(A:Option Addr)(n c:Nat)(w:World)(hT:Tab w)(cP:Cs w bp [.slice A n c] 91)(hP:Parts2 E ks w A n c):Calls prog 98 #[.pointer (some ⟨bp,0,none⟩)] w (RetX 0 w (dOfW (oneR (.prod ks)))):=by
 obtain⟨hb0,cR⟩:=blk1 w [.bool false,.slice none 0 0,.slice none 0 0,.int .i64 0,.bool false,.int .u64 0,.slice none 0 0,.slice none 0 0] 32;have HC:=hid (Qkl hE ks (ks.map oneK) A n c _ _ (hT.below hb0) (hP.below hE hb0) (by have:=hP.len;have:=hr.1;have:=hr.2.1;omega) (by rw [List.length_map,hP.len]) (el_one ks _));have p0:=(cP.below hb0 cP.lt).cell (k:=0) rfl;have HS:=hid cR.lt;clear hT hP;go_enter func98,ntmps98;go_wp2_with fail
 refine HC.out.mono ?_;rintro e w1 ⟨l,rfl,hl,hb1⟩;obtain⟨A',n',c',B',m',e',P',p',r',Q',q',s',rfl,_⟩:=hl.rd.shape;replace hb0:=bt hb0 hb1;replace cR:=cR.below hb1 cR.lt;have HL:=hid hl;clear hb1 hl HC;obtain⟨a0,a1,a2,a3,a4,a5,a6,a7⟩:=cR.c8;obtain⟨f0,f1,f2,f3,f4,f5,f6,f7⟩:=cR.f8;go_wp2_with fail
 refine Qak (l:=[.bool (dOfW (oneR (.prod ks))).neg,.slice A' n' c',.slice B' m' e',.int .i64 (dOfW (oneR (.prod ks))).c,.bool (dOfW (oneR (.prod ks))).i,.int .u64 (dOfW (oneR (.prod ks))).s,.slice P' p' r',.slice Q' q' s']) results98 underlying32 (by kernel_rfl) rfl (Qaj cR rfl _ _ _ _ _ _ _ _) rfl ?_;exact Qd2 HL.out HS.out (zero_le _) (by omega) hb0 cR rfl
theorem Qt7(hE:EOk E)(ks:List Nat)(hr:okRg (.prod ks))(bp:Nat)(A:Option Addr)(n c:Nat)(w:World)(hT:Tab w)(cP:Cs w bp [.slice A n c] 91)(hP:Parts2 E ks w A n c)(d d2:WD)(x y:List Value)(hx:WRd w x d)(hy:WRd w y d2)(hd:chkR (.prod ks) d)(he:chkR (.prod ks) d2)(sd:SzK d)(se:SzK d2)(bd:bits d)(be:bits d2):Calls prog 100 #[.agg x.toArray,.agg y.toArray,.pointer (some ⟨bp,0,none⟩)] w (RetX 0 w (dOfW (plusR (.prod ks) (valR (.prod ks) d) (valR (.prod ks) d2)))):=by
 obtain⟨A1,n1,c1,B1,m1,e1,P1,p1,r1,Q1,q1,s1,rfl,_⟩:=hx.shape;obtain⟨A2,n2,c2,B2,m2,e2,P2,p2,r2,Q2,q2,s2,rfl,_⟩:=hy.shape;show Calls _ _ #[.agg #[.bool d.neg,.slice A1 n1 c1,.slice B1 m1 e1,.int .i64 d.c,.bool d.i,.int .u64 d.s,.slice P1 p1 r1,.slice Q1 q1 s1],.agg #[.bool d2.neg,.slice A2 n2 c2,.slice B2 m2 e2,.int .i64 d2.c,.bool d2.i,.int .u64 d2.s,.slice P2 p2 r2,.slice Q2 q2 s2],_] _ _;obtain⟨hb0,cV,cW,cR⟩:=blk3 w [.bool d.neg,.slice A1 n1 c1,.slice B1 m1 e1,.int .i64 d.c,.bool d.i,.int .u64 d.s,.slice P1 p1 r1,.slice Q1 q1 s1] [.bool d2.neg,.slice A2 n2 c2,.slice B2 m2 e2,.int .i64 d2.c,.bool d2.i,.int .u64 d2.s,.slice P2 p2 r2,.slice Q2 q2 s2] [.bool false,.slice none 0 0,.slice none 0 0,.int .i64 0,.bool false,.int .u64 0,.slice none 0 0,.slice none 0 0] 32 32 32;have lp:=hP.len;have HC:=hid (Qkl hE ks (zipK plusK ks (takeL ks d.parts) (takeL ks d2.parts)) A n c _ _ (hT.below hb0) (hP.below hE hb0) (by have:=hr.1;have:=hr.2.1;omega) (by rw [Qkm (Qed (Qbv hd.2)) (Qed (Qbv he.2)),lp]) (Qy7 ks hr d d2 hd he sd se bd be _ _ _ _ _ cV cW (hx.keep hb0) (hy.keep hb0)));have p0:=(cP.below hb0 cP.lt).cell (k:=0) rfl;have HS:=hid cR.lt;clear hT hP hx hy hd he sd se bd be lp;have hmf:∀(fn:_root_.Go.Fn) (first cap:Array Value) (w:World),(Instr.makeFunc fn first cap).run prog w=.ok (.func fn first cap) w:=fun _ _ _ _=>rfl
 go_enter func100,ntmps100;go_wp2_with fail
 refine HC.out.mono ?_;rintro e w1 ⟨l,rfl,hl,hb1⟩;obtain⟨A',n',c',B',m',e',P',p',r',Q',q',s',rfl,_⟩:=hl.rd.shape;replace hb0:=bt hb0 hb1;replace cR:=cR.below hb1 cR.lt;have HL:=hid hl;clear hb1 hl HC;obtain⟨a0,a1,a2,a3,a4,a5,a6,a7⟩:=cR.c8;obtain⟨f0,f1,f2,f3,f4,f5,f6,f7⟩:=cR.f8;go_wp2_with fail
 refine Qak (l:=[.bool (dOfW (plusR (.prod ks) (valR (.prod ks) d) (valR (.prod ks) d2))).neg,.slice A' n' c',.slice B' m' e',.int .i64 (dOfW (plusR (.prod ks) (valR (.prod ks) d) (valR (.prod ks) d2))).c,.bool (dOfW (plusR (.prod ks) (valR (.prod ks) d) (valR (.prod ks) d2))).i,.int .u64 (dOfW (plusR (.prod ks) (valR (.prod ks) d) (valR (.prod ks) d2))).s,.slice P' p' r',.slice Q' q' s']) results100 underlying32 (by kernel_rfl) rfl (Qaj cR rfl _ _ _ _ _ _ _ _) rfl ?_;exact Qd2 HL.out HS.out (zero_le _) (by omega) hb0 cR rfl
theorem Qt8(hE:EOk E)(ks:List Nat)(hr:okRg (.prod ks))(bp:Nat)(A:Option Addr)(n c:Nat)(w:World)(hT:Tab w)(cP:Cs w bp [.slice A n c] 91)(hP:Parts2 E ks w A n c)(d d2:WD)(x y:List Value)(hx:WRd w x d)(hy:WRd w y d2)(hd:chkR (.prod ks) d)(he:chkR (.prod ks) d2)(sd:SzK d)(se:SzK d2)(bd:bits d)(be:bits d2):Calls prog 102 #[.agg x.toArray,.agg y.toArray,.pointer (some ⟨bp,0,none⟩)] w (RetX 0 w (dOfW (timesR (.prod ks) (valR (.prod ks) d) (valR (.prod ks) d2)))):=by
 obtain⟨A1,n1,c1,B1,m1,e1,P1,p1,r1,Q1,q1,s1,rfl,_⟩:=hx.shape;obtain⟨A2,n2,c2,B2,m2,e2,P2,p2,r2,Q2,q2,s2,rfl,_⟩:=hy.shape;show Calls _ _ #[.agg #[.bool d.neg,.slice A1 n1 c1,.slice B1 m1 e1,.int .i64 d.c,.bool d.i,.int .u64 d.s,.slice P1 p1 r1,.slice Q1 q1 s1],.agg #[.bool d2.neg,.slice A2 n2 c2,.slice B2 m2 e2,.int .i64 d2.c,.bool d2.i,.int .u64 d2.s,.slice P2 p2 r2,.slice Q2 q2 s2],_] _ _;obtain⟨hb0,cV,cW,cR⟩:=blk3 w [.bool d.neg,.slice A1 n1 c1,.slice B1 m1 e1,.int .i64 d.c,.bool d.i,.int .u64 d.s,.slice P1 p1 r1,.slice Q1 q1 s1] [.bool d2.neg,.slice A2 n2 c2,.slice B2 m2 e2,.int .i64 d2.c,.bool d2.i,.int .u64 d2.s,.slice P2 p2 r2,.slice Q2 q2 s2] [.bool false,.slice none 0 0,.slice none 0 0,.int .i64 0,.bool false,.int .u64 0,.slice none 0 0,.slice none 0 0] 32 32 32;have lp:=hP.len;have HC:=hid (Qkl hE ks (zipK timesK ks (takeL ks d.parts) (takeL ks d2.parts)) A n c _ _ (hT.below hb0) (hP.below hE hb0) (by have:=hr.1;have:=hr.2.1;omega) (by rw [Qkm (Qed (Qbv hd.2)) (Qed (Qbv he.2)),lp]) (Qwf ks hr d d2 hd he sd se bd be _ _ _ _ _ cV cW (hx.keep hb0) (hy.keep hb0)));have p0:=(cP.below hb0 cP.lt).cell (k:=0) rfl;have HS:=hid cR.lt;clear hT hP hx hy hd he sd se bd be lp;have hmf:∀(fn:_root_.Go.Fn) (first cap:Array Value) (w:World),(Instr.makeFunc fn first cap).run prog w=.ok (.func fn first cap) w:=fun _ _ _ _=>rfl
 go_enter func102,ntmps102;go_wp2_with fail
 refine HC.out.mono ?_;rintro e w1 ⟨l,rfl,hl,hb1⟩;obtain⟨A',n',c',B',m',e',P',p',r',Q',q',s',rfl,_⟩:=hl.rd.shape;replace hb0:=bt hb0 hb1;replace cR:=cR.below hb1 cR.lt;have HL:=hid hl;clear hb1 hl HC;obtain⟨a0,a1,a2,a3,a4,a5,a6,a7⟩:=cR.c8;obtain⟨f0,f1,f2,f3,f4,f5,f6,f7⟩:=cR.f8;go_wp2_with fail
 refine Qak (l:=[.bool (dOfW (timesR (.prod ks) (valR (.prod ks) d) (valR (.prod ks) d2))).neg,.slice A' n' c',.slice B' m' e',.int .i64 (dOfW (timesR (.prod ks) (valR (.prod ks) d) (valR (.prod ks) d2))).c,.bool (dOfW (timesR (.prod ks) (valR (.prod ks) d) (valR (.prod ks) d2))).i,.int .u64 (dOfW (timesR (.prod ks) (valR (.prod ks) d) (valR (.prod ks) d2))).s,.slice P' p' r',.slice Q' q' s']) results102 underlying32 (by kernel_rfl) rfl (Qaj cR rfl _ _ _ _ _ _ _ _) rfl ?_;exact Qd2 HL.out HS.out (zero_le _) (by omega) hb0 cR rfl
theorem Qxo(hE:EOk E)(ks:List Nat)(hr:okRg (.prod ks))(bp:Nat)(A:Option Addr)(n c:Nat)(w:World)(cP:Cs w bp [.slice A n c] 91)(hP:Parts2 E ks w A n c):Fn w (clo 92 bp) (QChk (chkR (.prod ks))):=by
 refine⟨_,_,rfl,Qaz func92 (by kernel_rfl) rfl,fun w' hb args R ⟨x,d,V,e1,hT,hx,sd,H,e2⟩=>?_⟩;subst e1 e2;exact Qt4 hE ks hr bp A n c w' hT (cP.below hb cP.lt) (hP.below hE hb) d x V hx sd H
theorem Qxp(hE:EOk E)(ks:List Nat)(hr:okRg (.prod ks))(bp:Nat)(A:Option Addr)(n c:Nat)(w:World)(cP:Cs w bp [.slice A n c] 91)(hP:Parts2 E ks w A n c):Fn w (clo 94 bp) (QMake (dOfW (zeroR (.prod ks)))):=by
 refine⟨_,_,rfl,Qaz func94 (by kernel_rfl) rfl,fun w' hb args R ⟨e1,hT,e2⟩=>?_⟩;subst e1 e2;exact Qt5 hE ks hr bp A n c w' hT (cP.below hb cP.lt) (hP.below hE hb)
theorem f_tup3(hE:EOk E)(ks:List Nat)(hr:okRg (.prod ks))(bp:Nat)(A:Option Addr)(n c:Nat)(w:World)(cP:Cs w bp [.slice A n c] 91)(hP:Parts2 E ks w A n c):Fn w (clo 98 bp) (QMake (dOfW (oneR (.prod ks)))):=by
 refine⟨_,_,rfl,Qaz func98 (by kernel_rfl) rfl,fun w' hb args R ⟨e1,hT,e2⟩=>?_⟩;subst e1 e2;exact Qt6 hE ks hr bp A n c w' hT (cP.below hb cP.lt) (hP.below hE hb)
theorem f_tup4(hE:EOk E)(ks:List Nat)(hr:okRg (.prod ks))(bp:Nat)(A:Option Addr)(n c:Nat)(w:World)(cP:Cs w bp [.slice A n c] 91)(hP:Parts2 E ks w A n c):Fn w (clo 100 bp) (QBin (okC (.prod ks)) (fun d e=>dOfW (plusR (.prod ks) (valR (.prod ks) d) (valR (.prod ks) e)))):=by
 refine⟨_,_,rfl,Qaz func100 (by kernel_rfl) rfl,fun w' hb args R ⟨x,y,d,e,e1,hT,hx,hy,sd,se,hd,he,bd,be,e2⟩=>?_⟩;subst e1 e2;exact Qt7 hE ks hr bp A n c w' hT (cP.below hb cP.lt) (hP.below hE hb) d e x y hx hy hd he sd se bd be
theorem f_tup5(hE:EOk E)(ks:List Nat)(hr:okRg (.prod ks))(bp:Nat)(A:Option Addr)(n c:Nat)(w:World)(cP:Cs w bp [.slice A n c] 91)(hP:Parts2 E ks w A n c):Fn w (clo 102 bp) (QBin (okC (.prod ks)) (fun d e=>dOfW (timesR (.prod ks) (valR (.prod ks) d) (valR (.prod ks) e)))):=by
 refine⟨_,_,rfl,Qaz func102 (by kernel_rfl) rfl,fun w' hb args R ⟨x,y,d,e,e1,hT,hx,hy,sd,se,hd,he,bd,be,e2⟩=>?_⟩;subst e1 e2;exact Qt8 hE ks hr bp A n c w' hT (cP.below hb cP.lt) (hP.below hE hb) d e x y hx hy hd he sd se bd be
theorem f_tupB(ks:List Nat)(w:World):Fn w (fv 106) (QRl (okC (.prod ks)) (bRel (.prod ks))):=Fn.plain (Qaz func106 (by kernel_rfl) rfl) fun w' args R ⟨x,y,d,e,V,e1,hT,hx,hy,sd,se,hd,he,bd,be,H,e2⟩=>by
 subst e1 e2;have:=H.out;subst this;exact Qdr d e x y w' hx hy
theorem Qwg(ks:List Nat)(d:WD):clean1 (chkR (.prod ks)) (dOfW (zeroR (.prod ks))) d=cleanW (.prod ks) d:=by
 unfold clean1;by_cases h:chkR (.prod ks) d
 ·rw [Qbf h]
  unfold cleanW;exact(if_pos h).symm
 ·rw [Qag h]
  unfold cleanW;exact(if_neg h).symm
theorem f_tupC(hE:EOk E)(ks:List Nat)(hr:okRg (.prod ks))(bp:Nat)(A:Option Addr)(n c:Nat)(w:World)(cP:Cs w bp [.slice A n c] 91)(hP:Parts2 E ks w A n c)(b1 b2:Nat)(hC:Cl w b1 b2 (clo 92 bp) (clo 94 bp)):Fn w (cln b1 b2) (QClean (cleanW (.prod ks))):=
 (Qxj hC (Qxo hE ks hr bp A n c w cP hP) (Qxp hE ks hr bp A n c w cP hP)).mono fun w' args R ⟨x,d,wa,h1,h2,h3,h4,h5,h6⟩=>⟨x,d,wa,h1,h2,h3,h4,h5,by rw [h6,Qwg]⟩
theorem Qwh(hE:EOk E)(G:Nat->Prop)(ks:List Nat)(hr:okRg (.prod ks))(A:Option Addr)(n c:Nat)(w:World)(hP:∀w',ChG G w w'->Parts2 E ks w' A n c):Calls prog 67 #[.slice A n c] w (fun e w'=> ∃l:List Value,e=.returned (.agg l.toArray)/\OSt E (.prod ks) (fun b=>G b/\b<w.heap.size) w' l/\Below w.heap.size w w'):=by
 obtain⟨hb0,cp,cr⟩:=blk2 w [.slice A n c] [.nilFunc,.nilFunc,.nilFunc,.nilFunc,.nilFunc,.nilFunc,.nilFunc,.nilFunc,.nilFunc,.nilFunc] 91 63;have HP:=hid hP;clear hP;have hsz:((w.alloc (.cells #[.slice A n c] 91)).alloc (.cells #[.nilFunc,.nilFunc,.nilFunc,.nilFunc,.nilFunc,.nilFunc,.nilFunc,.nilFunc,.nilFunc,.nilFunc] 63)).heap.size=w.heap.size+1+1:=by simp
 go_enter func67,ntmps67;go_wp2_with fail
 refine(Qdd _ _ _ _ _).mono ?_;rintro e w1 ⟨rfl,hC,hb1,hs⟩;rw [hsz]at hC hs;replace hb0:=bt hb0 hb1;replace cp:=cp.below hb1 cp.lt;replace cr:=cr.below hb1 cr.lt;clear hb1;rw [hsz];clear hsz;obtain⟨a0,a1,a2,a3,a4,a5,a6,a7,a8,a9⟩:=cr.c10;obtain⟨f0,f1,f2,f3,f4,f5,f6,f7⟩:=cr.f8;have f8:=cr.frozen 8;have f9:=cr.frozen 9;go_wp2_with fail
 refine Qak (l:=[clo 92 (w.heap.size),cln (w.heap.size+1+1) (w.heap.size+1+1+1),clo 94 (w.heap.size),clo 98 (w.heap.size),clo 100 (w.heap.size),clo 102 (w.heap.size),clo 104 (w.heap.size),fv 106,clo 107 (w.heap.size),clo 109 (w.heap.size)]) results67 underlying63 (by kernel_rfl) rfl (Qa5 cr rfl _ _ _ _ _ _ _ _ _ _) rfl ?_;have HC:=hC.s10 cr (by decide) (clo 92 (w.heap.size)) (cln (w.heap.size+1+1) (w.heap.size+1+1+1)) (clo 94 (w.heap.size)) (clo 98 (w.heap.size)) (clo 100 (w.heap.size)) (clo 102 (w.heap.size)) (clo 104 (w.heap.size)) (fv 106) (clo 107 (w.heap.size)) (clo 109 (w.heap.size));have HQ:=Qcf cp (show w.heap.size≠w.heap.size+1 by omega) (clo 92 (w.heap.size)) (cln (w.heap.size+1+1) (w.heap.size+1+1+1)) (clo 94 (w.heap.size)) (clo 98 (w.heap.size)) (clo 100 (w.heap.size)) (clo 102 (w.heap.size)) (clo 104 (w.heap.size)) (fv 106) (clo 107 (w.heap.size)) (clo 109 (w.heap.size));have HB:=Qav hb0 (show w.heap.size<=w.heap.size+1 by omega) (clo 92 (w.heap.size)) (cln (w.heap.size+1+1) (w.heap.size+1+1+1)) (clo 94 (w.heap.size)) (clo 98 (w.heap.size)) (clo 100 (w.heap.size)) (clo 102 (w.heap.size)) (clo 104 (w.heap.size)) (fv 106) (clo 107 (w.heap.size)) (clo 109 (w.heap.size));refine⟨_,rfl,fun w2 h2=>?_,HB⟩;have hq:Parts2 E ks w2 A n c:=HP.out w2 ((ChG.of_below HB).trans (h2.mono (fun b _ hb=>hb.1)));have cq:=h2.cs HQ (by omega);have hc:=HC.chg h2 (by omega) (by omega);exact⟨_,_,_,_,_,_,_,_,_,_,rfl,Qxo hE ks hr _ A n c w2 cq hq,f_tupC hE ks hr _ A n c w2 cq hq _ _ hc,Qxp hE ks hr _ A n c w2 cq hq,f_tup3 hE ks hr _ A n c w2 cq hq,f_tup4 hE ks hr _ A n c w2 cq hq,f_tup5 hE ks hr _ A n c w2 cq hq,f_tupB ks w2,⟨_,_,rfl⟩,⟨_,_,rfl⟩,⟨_,_,rfl⟩,hE.prod ks w2 _ A n c hr cq hq⟩
end Go.Proofs.YthbhgelncdnmgaaGreatDoor
