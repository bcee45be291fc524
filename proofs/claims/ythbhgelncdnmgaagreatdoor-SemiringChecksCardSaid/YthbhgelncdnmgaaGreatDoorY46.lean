import Derived.Test.YthbhgelncdnmgaaGreatDoorY45
import Derived.Test.YthbhgelncdnmgaaGreatDoorY22
set_option linter.unusedVariables false
set_option linter.unusedSimpArgs false
set_option maxRecDepth 40000
set_option maxHeartbeats 16000000
namespace Go.Proofs.YthbhgelncdnmgaaGreatDoor
open Go.Proofs.Tryz
open Lib (hid)
open Go.RowKit
def PRe(w:World)(v:Value)(l:List RawM):Prop:=PBy (fun z q=>Inr w z q) w v l/\l.length<=1000000
theorem PRe.below{w w':World}{v:Value}{l:List RawM}(h:PRe w v l)(hb:Below w.heap.size w w'):PRe w' v l:=⟨h.1.imp (fun _ _ hr=>hr.below hb) hb.size hb.block,h.2⟩
theorem PRe.at6{w:World}{A:Option Addr}{n c:Nat}{l:List RawM}(h:PRe w (.slice A n c) l){i:Nat}{e:Int × Int × Int}{q:Rat}(hi:l[i]? =some (e,q)):
 ∃b o nb A' n' c' B' m' e',A=some ⟨b,o,none⟩/\b<w.heap.size/\At6 w b (o+i*6) (.int .i64 e.1) (.int .i64 e.2.1) (.int .i64 e.2.2) (.bool nb) (.slice A' n' c') (.slice B' m' e')/\Inr w (.agg #[.bool nb,.slice A' n' c',.slice B' m' e']) q:=by
 obtain⟨b,o,z0,z1,z2,hA,hb,hat,hr⟩:=h.1.at hi;obtain⟨nb,A',n',c',B',m',e',heq⟩:=hr.agg;simp only [Value.agg.injEq,Array.mk.injEq,List.cons.injEq,and_true]at heq;obtain⟨rfl,rfl,rfl⟩:=heq;exact⟨b,o,nb,A',n',c',B',m',e',hA,hb,hat,hr⟩
theorem Inr.parts{w:World}{q:Rat}{nb:Bool}{A B:Option Addr}{n c m d:Nat}(h:Inr w (.agg #[.bool nb,.slice A n c,.slice B m d]) q):∃ln ld,Num w ln A n c/\Num w ld B m d/\n<=1000000/\m<=1000000/\fq nb ln ld=q:=by
 obtain⟨neg,A1,n1,c1,A2,m1,c2,ln,ld,e,h1,h2,h3,h4,h5⟩:=h;simp only [Value.agg.injEq,Array.mk.injEq,List.cons.injEq,and_true,Value.bool.injEq,Value.slice.injEq]at e;obtain⟨rfl,⟨rfl,rfl,rfl⟩,rfl,rfl,rfl⟩:=e;exact⟨ln,ld,h1,h2,h3,h4,h5⟩
theorem Qgo(v:Value)(q:Rat)(sg:Int)(w:World)(h:Inr w v q)(hs:Hid (q.num.sign=sg)):Calls prog 69 #[v] w (RetV w (.int .i64 sg)):=by
 rw [<-hs.out];exact Qxe v q w h
theorem Quj(e f:Int × Int × Int):lexI e f= - lexI f e:=by
 unfold lexI
 repeat' split
 all_goals omega
theorem Qkt{V:Bool}{l:List RawM}{k:Nat}(h:Hid ((V=true↔vraw l)/\k<l.length/\¬okAt l k)):false=V:=by
 cases V
 ·rfl
 ·exact absurd (h.out.1.1 rfl k h.out.2.1) h.out.2.2
theorem Qww(v:Value)(l:List RawM)(w:World)(h:PRe w v l)(V:Bool)(HV:Hid (V=true↔vraw l)):Calls prog 70 #[v] w (RetV w (.bool V)):=by
 obtain⟨A,cap,rfl⟩:=PBy.slice h.1;have hlen:=h.2;go_enter func70,ntmps70;go_wp2_with fail
 go_loopw [3] (fun i wr=> ∃k,k<=l.length/\i=.int .i64 (k:Int)/\Below w.heap.size w wr/\Hid (∀j,j<k->okAt l j)) (fun i _=>(l.length-intOf i).toNat)
 case atStart=>exact⟨0,Nat.zero_le _,rfl,Below.refl _ _,show Hid _ from fun j h1=>by omega⟩
 case round=>
  obtain⟨k,hk,rfl,hB,HO⟩:=hrel;rcases Nat.lt_or_ge k l.length with hkn|hkn
  ·obtain⟨⟨e,q⟩,hm⟩:∃m,l[k]? =some m:=⟨l[k],List.getElem?_eq_getElem hkn⟩
   obtain⟨b,o,nb,A',n',c',B',m',d',rfl,hb,hat,hr⟩:=h.at6 hm;obtain⟨ln,ld,hn1,hn2,hs1,hs2,hfq⟩:=hr.parts;have hltk:(k:Int)<(l.length:Int):=(by omega);have HK:=hid hkn;have HM:=hid hm;have HBW:=hid hB.drew;have HAT:Hid (At6 wr.drew b (o+k*6) _ _ _ _ _ _):=hid ((hat.below hB hb).below (Below.refl _ _).drew (Nat.lt_of_lt_of_le hb hB.size));have HLT:Hid (b<wr.drew.heap.size):=hid (Nat.lt_of_lt_of_le hb hB.size);have HN1:=hid hn1;have HN2:=hid hn2;have HSN:=hid (And.intro hs1 hs2);have HIN:=hid hr;have HFQ:=hid hfq;have HPW:=hid h;clear hk hkn hm hB hat hb hn1 hn2 hs1 hs2 hr hfq h;obtain⟨kn,hkn⟩:∃kn,knownI (e.1,e.2.1,e.2.2)=kn:=⟨_,rfl⟩;have hke:knownI e=kn:=hkn;cases kn
   ·have HKN:=hid hkn
    have HNO:Hid ((V=true↔vraw l)/\k<l.length/\¬okAt l k):=hid ⟨HV.out,HK.out,fun ho=>by have:=(ho _ HM.out).1;rw [hke]at this;cases this⟩;clear hkn hke
    go_upto_region 4 with(fail)
    refine Qan 44 [10,11,12,13,14,15,16,17,18,19,20,21,22,23,24,25,26,27,28,29,30,31,32,33,34,35,36,37,38,39,40,41,42,43,44,45,46,47,48,49,50,51,52,53] [.val (.slice (some ⟨b,o,none⟩) l.length cap),.val (.int .i64 (k:Int)),.val (.pointer (some ⟨b,o+k*6,none⟩)),.val (.pointer (some ⟨b,o+k*6,none⟩)),.val (.agg #[.int .i64 e.1,.int .i64 e.2.1,.int .i64 e.2.2]),.val (.bool false),.val (.bool true),.val (.bool true),.val (undef),.val (undef),.val (undef),.val (undef),.val (undef),.val (undef),.val (undef),.val (.bool true),.val (.bool true),.val (undef),.val (undef),.val (undef),.val (undef),.val (undef),.val (undef),.val (undef),.val (.bool true),.val (.bool true),.val (undef),.val (undef),.val (undef),.val (undef),.val (undef),.val (undef),.val (undef),.val (undef),.val (undef),.val (undef),.val (undef),.val (undef),.val (undef),.val (undef),.val (undef),.val (undef),.val (undef),.val (.bool true)] (by kernel_rfl) (by kernel_rfl) (by kernel_rfl) (by kernel_rfl) ?stepa 0 (by kernel_rfl) _ rfl ?fina
    case stepa=>
     intro i hi oi ho f wx hB hdep K hK;simp only [frontAct,zf1,zf2,zf3,zf4,zf5]at hK⊢;obtain⟨x0,x1,x2,x3,x4,x5⟩:=HAT.out.below hB HLT.out;obtain rfl|rfl|rfl|rfl|rfl|rfl|rfl|rfl|rfl|rfl|rfl|rfl|rfl|rfl|rfl|rfl|rfl|rfl|rfl|rfl|rfl|rfl|rfl|rfl|rfl|rfl|rfl|rfl|rfl|rfl|rfl|rfl|rfl|rfl|rfl|rfl|rfl|rfl|rfl|rfl|rfl|rfl|rfl|rfl:=cs44 hi;all_goals
      obtain rfl:=Option.some.inj ho;simp only [Act.put,zf3,zf4,zf5]at hK
     rotate_left 5
     ·simp [gOf6,Sq.holds,Region.binds]at hdep
      simp only [hdep]at hK⊢;go_simp;refine(Qb9 e.1 e.2.1 e.2.2 wx false HKN).mono ?_;rintro e0 w' ⟨rfl,hb⟩;exact hK (.bool false) w' (gv6 rfl) hb (bt hB hb) (nb6 rfl rfl)
     rotate_left 38
     all_goals simp [gOf6,Sq.holds,Region.binds]at hdep
     all_goals try simp only [hdep]at hK⊢
     all_goals go_simp
     all_goals exact hK _ wx (gv6 rfl) (Below.refl _ _) hB (nb6 rfl rfl)
    case fina=>
     intro f wx hB hG hne;have e53:=dv6 (a:=f 53) (hG 43 (by decide)) rfl;clear hG hne;simp only [frontAct,zf1,zf2,zf3,zf4,zf5];generalize f 53=f53 at*
     subst e53;refine wpAny_done (by kernel_rfl) ?_ _;go_wp2_with fail
     go_ret;exact⟨Qal (Qkt HNO),bt HBW.out hB⟩
   have HKN:=hid hkn;have HKE:=hid hke;clear hkn hke;obtain⟨vd,hvd⟩:∃vd,vld nb ln ld=vd:=⟨_,rfl⟩;cases vd
   ·have HVD:=hid hvd
    have HNO:Hid ((V=true↔vraw l)/\k<l.length/\¬okAt l k):=hid ⟨HV.out,HK.out,fun ho=>(ho _ HM.out).2.1 (by show q=0;rw [<-HFQ.out];unfold fq;rw [HVD.out];rfl)⟩;clear hvd
    go_upto_region 4 with(fail)
    refine Qan 44 [10,11,12,13,14,15,16,17,18,19,20,21,22,23,24,25,26,27,28,29,30,31,32,33,34,35,36,37,38,39,40,41,42,43,44,45,46,47,48,49,50,51,52,53] [.val (.slice (some ⟨b,o,none⟩) l.length cap),.val (.int .i64 (k:Int)),.val (.pointer (some ⟨b,o+k*6,none⟩)),.val (.pointer (some ⟨b,o+k*6,none⟩)),.val (.agg #[.int .i64 e.1,.int .i64 e.2.1,.int .i64 e.2.2]),.val (.bool true),.val (.bool false),.val (.bool false),.val (.slice (some ⟨b,o,none⟩) l.length cap),.val (.int .i64 (k:Int)),.val (.pointer (some ⟨b,o+k*6,none⟩)),.val (.pointer (some ⟨b,o+k*6+3,none⟩)),.val (.agg #[.bool nb,.slice A' n' c',.slice B' m' d']),.val (.bool false),.val (.bool true),.val (.bool true),.val (.bool true),.val (undef),.val (undef),.val (undef),.val (undef),.val (undef),.val (undef),.val (undef),.val (.bool true),.val (.bool true),.val (undef),.val (undef),.val (undef),.val (undef),.val (undef),.val (undef),.val (undef),.val (undef),.val (undef),.val (undef),.val (undef),.val (undef),.val (undef),.val (undef),.val (undef),.val (undef),.val (undef),.val (.bool true)] (by kernel_rfl) (by kernel_rfl) (by kernel_rfl) (by kernel_rfl) ?stepb 0 (by kernel_rfl) _ rfl ?finb
    case stepb=>
     intro i hi oi ho f wx hB hdep K hK;simp only [frontAct,zf1,zf2,zf3,zf4,zf5]at hK⊢;obtain⟨x0,x1,x2,x3,x4,x5⟩:=HAT.out.below hB HLT.out;obtain rfl|rfl|rfl|rfl|rfl|rfl|rfl|rfl|rfl|rfl|rfl|rfl|rfl|rfl|rfl|rfl|rfl|rfl|rfl|rfl|rfl|rfl|rfl|rfl|rfl|rfl|rfl|rfl|rfl|rfl|rfl|rfl|rfl|rfl|rfl|rfl|rfl|rfl|rfl|rfl|rfl|rfl|rfl|rfl:=cs44 hi;all_goals
      obtain rfl:=Option.some.inj ho;simp only [Act.put,zf3,zf4,zf5]at hK
     rotate_left 5
     ·simp [gOf6,Sq.holds,Region.binds]at hdep
      simp only [hdep]at hK⊢;go_simp;refine(Qb9 e.1 e.2.1 e.2.2 wx true HKN).mono ?_;rintro e0 w' ⟨rfl,hb⟩;exact hK (.bool true) w' (gv6 rfl) hb (bt hB hb) (nb6 rfl rfl)
     rotate_left 7
     ·simp [gOf6,Sq.holds,Region.binds]at hdep
      simp only [hdep]at hK⊢;have hB0:=bt HBW.out hB;go_simp;refine(Qdp nb A' B' n' c' m' d' ln ld wx false (HN1.out.below hB0) (HN2.out.below hB0) HSN.out.1 HSN.out.2 HVD).mono ?_;rintro e0 w' ⟨rfl,hb⟩;exact hK (.bool false) w' (gv6 rfl) hb (bt hB hb) (nb6 rfl rfl)
     rotate_left 30
     all_goals simp [gOf6,Sq.holds,Region.binds]at hdep
     all_goals try simp only [hdep]at hK⊢
     all_goals go_simp
     all_goals exact hK _ wx (gv6 rfl) (Below.refl _ _) hB (nb6 rfl rfl)
    case finb=>
     intro f wx hB hG hne;have e53:=dv6 (a:=f 53) (hG 43 (by decide)) rfl;clear hG hne;simp only [frontAct,zf1,zf2,zf3,zf4,zf5];generalize f 53=f53 at*
     subst e53;refine wpAny_done (by kernel_rfl) ?_ _;go_wp2_with fail
     go_ret;exact⟨Qal (Qkt HNO),bt HBW.out hB⟩
   have HVD:=hid hvd;clear hvd;obtain⟨sg,hsg⟩:∃sg,q.num.sign=sg:=⟨_,rfl⟩;have HSG:=hid hsg;by_cases hq:q=0
   ·have HSZ:Hid ((sg==0)=true):=hid (by rw [<-HSG.out,Qeb,hq];rfl)
    have HNO:Hid ((V=true↔vraw l)/\k<l.length/\¬okAt l k):=hid ⟨HV.out,HK.out,fun ho=>(ho _ HM.out).2.1 hq⟩;clear hq hsg
    go_upto_region 4 with(fail)
    refine Qan 44 [10,11,12,13,14,15,16,17,18,19,20,21,22,23,24,25,26,27,28,29,30,31,32,33,34,35,36,37,38,39,40,41,42,43,44,45,46,47,48,49,50,51,52,53] [.val (.slice (some ⟨b,o,none⟩) l.length cap),.val (.int .i64 (k:Int)),.val (.pointer (some ⟨b,o+k*6,none⟩)),.val (.pointer (some ⟨b,o+k*6,none⟩)),.val (.agg #[.int .i64 e.1,.int .i64 e.2.1,.int .i64 e.2.2]),.val (.bool true),.val (.bool false),.val (.bool false),.val (.slice (some ⟨b,o,none⟩) l.length cap),.val (.int .i64 (k:Int)),.val (.pointer (some ⟨b,o+k*6,none⟩)),.val (.pointer (some ⟨b,o+k*6+3,none⟩)),.val (.agg #[.bool nb,.slice A' n' c',.slice B' m' d']),.val (.bool true),.val (.bool false),.val (.bool false),.val (.bool false),.val (.slice (some ⟨b,o,none⟩) l.length cap),.val (.int .i64 (k:Int)),.val (.pointer (some ⟨b,o+k*6,none⟩)),.val (.pointer (some ⟨b,o+k*6+3,none⟩)),.val (.agg #[.bool nb,.slice A' n' c',.slice B' m' d']),.val (.int .i64 sg),.val (.bool true),.val (.bool true),.val (.bool true),.val (undef),.val (undef),.val (undef),.val (undef),.val (undef),.val (undef),.val (undef),.val (undef),.val (undef),.val (undef),.val (undef),.val (undef),.val (undef),.val (undef),.val (undef),.val (undef),.val (undef),.val (.bool true)] (by kernel_rfl) (by kernel_rfl) (by kernel_rfl) (by kernel_rfl) ?stepc 0 (by kernel_rfl) _ rfl ?finc
    case stepc=>
     intro i hi oi ho f wx hB hdep K hK;simp only [frontAct,zf1,zf2,zf3,zf4,zf5]at hK⊢;obtain⟨x0,x1,x2,x3,x4,x5⟩:=HAT.out.below hB HLT.out;obtain rfl|rfl|rfl|rfl|rfl|rfl|rfl|rfl|rfl|rfl|rfl|rfl|rfl|rfl|rfl|rfl|rfl|rfl|rfl|rfl|rfl|rfl|rfl|rfl|rfl|rfl|rfl|rfl|rfl|rfl|rfl|rfl|rfl|rfl|rfl|rfl|rfl|rfl|rfl|rfl|rfl|rfl|rfl|rfl:=cs44 hi;all_goals
      obtain rfl:=Option.some.inj ho;simp only [Act.put,zf3,zf4,zf5]at hK
     rotate_left 5
     ·simp [gOf6,Sq.holds,Region.binds]at hdep
      simp only [hdep]at hK⊢;go_simp;refine(Qb9 e.1 e.2.1 e.2.2 wx true HKN).mono ?_;rintro e0 w' ⟨rfl,hb⟩;exact hK (.bool true) w' (gv6 rfl) hb (bt hB hb) (nb6 rfl rfl)
     rotate_left 7
     ·simp [gOf6,Sq.holds,Region.binds]at hdep
      simp only [hdep]at hK⊢;have hB0:=bt HBW.out hB;go_simp;refine(Qdp nb A' B' n' c' m' d' ln ld wx true (HN1.out.below hB0) (HN2.out.below hB0) HSN.out.1 HSN.out.2 HVD).mono ?_;rintro e0 w' ⟨rfl,hb⟩;exact hK (.bool true) w' (gv6 rfl) hb (bt hB hb) (nb6 rfl rfl)
     rotate_left 8
     ·simp [gOf6,Sq.holds,Region.binds]at hdep
      simp only [hdep]at hK⊢;have hB0:=bt HBW.out hB;go_simp;refine(Qgo _ q sg wx (HIN.out.below hB0) HSG).mono ?_;rintro e0 w' ⟨rfl,hb⟩;exact hK (.int .i64 sg) w' (gv6 rfl) hb (bt hB hb) (nb6 rfl rfl)
     have hsz:=HSZ.out;rotate_left 21
     all_goals simp [gOf6,Sq.holds,Region.binds]at hdep
     all_goals try simp only [hdep]at hK⊢
     all_goals go_simp
     all_goals exact hK _ wx (gv6 rfl) (Below.refl _ _) hB (nb6 rfl rfl)
    case finc=>
     intro f wx hB hG hne;have e53:=dv6 (a:=f 53) (hG 43 (by decide)) rfl;clear hG hne;simp only [frontAct,zf1,zf2,zf3,zf4,zf5];generalize f 53=f53 at*
     subst e53;refine wpAny_done (by kernel_rfl) ?_ _;go_wp2_with fail
     go_ret;exact⟨Qal (Qkt HNO),bt HBW.out hB⟩
   have HSZ:Hid ((sg==0)=false):=hid (by rw [<-HSG.out,Qeb];exact decide_eq_false hq);have HQ0:=hid hq;clear hq hsg;by_cases h0:k=0
   ·have HK0:Hid (decide (0<k)=false):=hid (decide_eq_false (by omega))
    have HYES:Hid (Hid (∀j,j<k+1->okAt l j)):=hid (hid (Qf4 HO.out (fun m hm2=>by
     obtain rfl:(e,q)=m:=Option.some.inj (HM.out.symm.trans hm2);exact⟨HKE.out,HQ0.out,fun h=>absurd h (by omega)⟩)))
    clear h0
    go_upto_region 4 with(fail)
    refine Qan 44 [10,11,12,13,14,15,16,17,18,19,20,21,22,23,24,25,26,27,28,29,30,31,32,33,34,35,36,37,38,39,40,41,42,43,44,45,46,47,48,49,50,51,52,53] [.val (.slice (some ⟨b,o,none⟩) l.length cap),.val (.int .i64 (k:Int)),.val (.pointer (some ⟨b,o+k*6,none⟩)),.val (.pointer (some ⟨b,o+k*6,none⟩)),.val (.agg #[.int .i64 e.1,.int .i64 e.2.1,.int .i64 e.2.2]),.val (.bool true),.val (.bool false),.val (.bool false),.val (.slice (some ⟨b,o,none⟩) l.length cap),.val (.int .i64 (k:Int)),.val (.pointer (some ⟨b,o+k*6,none⟩)),.val (.pointer (some ⟨b,o+k*6+3,none⟩)),.val (.agg #[.bool nb,.slice A' n' c',.slice B' m' d']),.val (.bool true),.val (.bool false),.val (.bool false),.val (.bool false),.val (.slice (some ⟨b,o,none⟩) l.length cap),.val (.int .i64 (k:Int)),.val (.pointer (some ⟨b,o+k*6,none⟩)),.val (.pointer (some ⟨b,o+k*6+3,none⟩)),.val (.agg #[.bool nb,.slice A' n' c',.slice B' m' d']),.val (.int .i64 sg),.val (.bool false),.val (.bool false),.val (.bool false),.val (.int .i64 (k:Int)),.val (.bool false),.val (.bool false),.val (undef),.val (undef),.val (undef),.val (undef),.val (undef),.val (undef),.val (undef),.val (undef),.val (undef),.val (undef),.val (undef),.val (undef),.val (undef),.val (.bool false),.val (.bool false)] (by kernel_rfl) (by kernel_rfl) (by kernel_rfl) (by kernel_rfl) ?stepd 0 (by kernel_rfl) _ rfl ?find
    case stepd=>
     intro i hi oi ho f wx hB hdep K hK;simp only [frontAct,zf1,zf2,zf3,zf4,zf5]at hK⊢;obtain⟨x0,x1,x2,x3,x4,x5⟩:=HAT.out.below hB HLT.out;obtain rfl|rfl|rfl|rfl|rfl|rfl|rfl|rfl|rfl|rfl|rfl|rfl|rfl|rfl|rfl|rfl|rfl|rfl|rfl|rfl|rfl|rfl|rfl|rfl|rfl|rfl|rfl|rfl|rfl|rfl|rfl|rfl|rfl|rfl|rfl|rfl|rfl|rfl|rfl|rfl|rfl|rfl|rfl|rfl:=cs44 hi;all_goals
      obtain rfl:=Option.some.inj ho;simp only [Act.put,zf3,zf4,zf5]at hK
     rotate_left 5
     ·simp [gOf6,Sq.holds,Region.binds]at hdep
      simp only [hdep]at hK⊢;go_simp;refine(Qb9 e.1 e.2.1 e.2.2 wx true HKN).mono ?_;rintro e0 w' ⟨rfl,hb⟩;exact hK (.bool true) w' (gv6 rfl) hb (bt hB hb) (nb6 rfl rfl)
     rotate_left 7
     ·simp [gOf6,Sq.holds,Region.binds]at hdep
      simp only [hdep]at hK⊢;have hB0:=bt HBW.out hB;go_simp;refine(Qdp nb A' B' n' c' m' d' ln ld wx true (HN1.out.below hB0) (HN2.out.below hB0) HSN.out.1 HSN.out.2 HVD).mono ?_;rintro e0 w' ⟨rfl,hb⟩;exact hK (.bool true) w' (gv6 rfl) hb (bt hB hb) (nb6 rfl rfl)
     rotate_left 8
     ·simp [gOf6,Sq.holds,Region.binds]at hdep
      simp only [hdep]at hK⊢;have hB0:=bt HBW.out hB;go_simp;refine(Qgo _ q sg wx (HIN.out.below hB0) HSG).mono ?_;rintro e0 w' ⟨rfl,hb⟩;exact hK (.int .i64 sg) w' (gv6 rfl) hb (bt hB hb) (nb6 rfl rfl)
     have hsz:=HSZ.out;rotate_left 4
     have hk0:=HK0.out;rotate_left 17
     all_goals simp [gOf6,Sq.holds,Region.binds]at hdep
     all_goals try simp only [hdep]at hK⊢
     all_goals go_simp
     all_goals exact hK _ wx (gv6 rfl) (Below.refl _ _) hB (nb6 rfl rfl)
    case find=>
     intro f wx hB hG hne;have e53:=dv6 (a:=f 53) (hG 43 (by decide)) rfl;clear hG hne;simp only [frontAct,zf1,zf2,zf3,zf4,zf5];generalize f 53=f53 at*
     subst e53;refine wpAny_done (by kernel_rfl) ?_ _;go_wp2_with fail
     exact⟨⟨k+1,HK.out,congrArg (Value.int _) (by omega),bt HBW.out hB,HYES.out⟩,by simp [intOf];have:=HK.out;omega⟩
   have HK0:Hid (decide (0<k)=true):=hid (decide_eq_true (by omega));obtain⟨⟨e1,q1⟩,hm1⟩:∃m,l[k-1]? =some m:=⟨l[k-1],List.getElem?_eq_getElem (by have:=HK.out;omega)⟩;obtain⟨b1,o1,nb1,A1,n1,c1,B1,m1,d1,heq,hb1,hat1,_⟩:=HPW.out.at6 hm1;obtain⟨rfl,rfl⟩:b1=b/\o1=o:=by simpa [eq_comm] using heq
   obtain⟨k1,hk1⟩:∃k1,k-1=k1:=⟨_,rfl⟩;rw [hk1]at hat1;have HAP:Hid (At6 wr.drew b1 (o1+k1*6) _ _ _ _ _ _):=hid (hat1.below HBW.out hb1);have HW1:Hid (IntKind.i64.wrap ((k:Int) - 1)=(k1:Int)):=hid (by rw [show(k:Int) - 1=(k1:Int)by omega];exact IntWalk.i64_in _ (by have:=HK.out;omega));have HW2:Hid ((k1:Int)<(l.length:Int)):=hid (by have:=HK.out;omega);obtain⟨V2,hV2⟩:∃V2,lexI (e.1,e.2.1,e.2.2) (e1.1,e1.2.1,e1.2.2)=V2:=⟨_,rfl⟩;have HV2:=hid hV2;have hle:lexI e1 e= - V2:=by rw [Quj];exact congrArg (fun z=> -z) hV2
   have HORD:Hid ((0<=V2->Hid ((V=true↔vraw l)/\k<l.length/\¬okAt l k))/\(¬0<=V2->Hid (∀j,j<k+1->okAt l j))):=hid ⟨fun hv=>hid ⟨HV.out,HK.out,fun ho=>by
    have h3:=(ho _ HM.out).2.2 (by omega) (e1,q1) hm1;have h3':0<lexI e1 e:=h3;rw [hle]at h3';omega⟩,fun hv=>hid (Qf4 HO.out (fun m hm2=>by
    obtain rfl:(e,q)=m:=Option.some.inj (HM.out.symm.trans hm2);refine⟨HKE.out,HQ0.out,fun _ p hp=>?_⟩;obtain rfl:(e1,q1)=p:=Option.some.inj (hm1.symm.trans hp);show 0<lexI e1 e;rw [hle];omega))⟩
   clear hm1 hat1 hb1 heq h0 hV2 hle hk1
   go_upto_region 4 with(fail)
   refine Qan 44 [10,11,12,13,14,15,16,17,18,19,20,21,22,23,24,25,26,27,28,29,30,31,32,33,34,35,36,37,38,39,40,41,42,43,44,45,46,47,48,49,50,51,52,53] [.val (.slice (some ⟨b1,o1,none⟩) l.length cap),.val (.int .i64 (k:Int)),.val (.pointer (some ⟨b1,o1+k*6,none⟩)),.val (.pointer (some ⟨b1,o1+k*6,none⟩)),.val (.agg #[.int .i64 e.1,.int .i64 e.2.1,.int .i64 e.2.2]),.val (.bool true),.val (.bool false),.val (.bool false),.val (.slice (some ⟨b1,o1,none⟩) l.length cap),.val (.int .i64 (k:Int)),.val (.pointer (some ⟨b1,o1+k*6,none⟩)),.val (.pointer (some ⟨b1,o1+k*6+3,none⟩)),.val (.agg #[.bool nb,.slice A' n' c',.slice B' m' d']),.val (.bool true),.val (.bool false),.val (.bool false),.val (.bool false),.val (.slice (some ⟨b1,o1,none⟩) l.length cap),.val (.int .i64 (k:Int)),.val (.pointer (some ⟨b1,o1+k*6,none⟩)),.val (.pointer (some ⟨b1,o1+k*6+3,none⟩)),.val (.agg #[.bool nb,.slice A' n' c',.slice B' m' d']),.val (.int .i64 sg),.val (.bool false),.val (.bool false),.val (.bool false),.val (.int .i64 (k:Int)),.val (.bool true),.val (.bool true),.val (.slice (some ⟨b1,o1,none⟩) l.length cap),.val (.int .i64 (k:Int)),.val (.pointer (some ⟨b1,o1+k*6,none⟩)),.val (.pointer (some ⟨b1,o1+k*6,none⟩)),.val (.agg #[.int .i64 e.1,.int .i64 e.2.1,.int .i64 e.2.2]),.val (.slice (some ⟨b1,o1,none⟩) l.length cap),.val (.int .i64 (k:Int)),.val (.int .i64 (k1:Int)),.val (.pointer (some ⟨b1,o1+k1*6,none⟩)),.val (.pointer (some ⟨b1,o1+k1*6,none⟩)),.val (.agg #[.int .i64 e1.1,.int .i64 e1.2.1,.int .i64 e1.2.2]),.val (.int .i64 V2),.val (.bool (decide (0<=V2))),.val (.bool (decide (0<=V2))),.val (.bool (decide (0<=V2)))] (by kernel_rfl) (by kernel_rfl) (by kernel_rfl) (by kernel_rfl) ?stepe 0 (by kernel_rfl) _ rfl ?fine
   case stepe=>
    intro i hi oi ho f wx hB hdep K hK;simp only [frontAct,zf1,zf2,zf3,zf4,zf5]at hK⊢;obtain⟨x0,x1,x2,x3,x4,x5⟩:=HAT.out.below hB HLT.out;obtain⟨z0,z1,z2,z3,z4,z5⟩:=HAP.out.below hB HLT.out;obtain rfl|rfl|rfl|rfl|rfl|rfl|rfl|rfl|rfl|rfl|rfl|rfl|rfl|rfl|rfl|rfl|rfl|rfl|rfl|rfl|rfl|rfl|rfl|rfl|rfl|rfl|rfl|rfl|rfl|rfl|rfl|rfl|rfl|rfl|rfl|rfl|rfl|rfl|rfl|rfl|rfl|rfl|rfl|rfl:=cs44 hi;all_goals
     obtain rfl:=Option.some.inj ho;simp only [Act.put,zf3,zf4,zf5]at hK
    rotate_left 5
    ·simp [gOf6,Sq.holds,Region.binds]at hdep
     simp only [hdep]at hK⊢;go_simp;refine(Qb9 e.1 e.2.1 e.2.2 wx true HKN).mono ?_;rintro e0 w' ⟨rfl,hb⟩;exact hK (.bool true) w' (gv6 rfl) hb (bt hB hb) (nb6 rfl rfl)
    rotate_left 7
    ·simp [gOf6,Sq.holds,Region.binds]at hdep
     simp only [hdep]at hK⊢;have hB0:=bt HBW.out hB;go_simp;refine(Qdp nb A' B' n' c' m' d' ln ld wx true (HN1.out.below hB0) (HN2.out.below hB0) HSN.out.1 HSN.out.2 HVD).mono ?_;rintro e0 w' ⟨rfl,hb⟩;exact hK (.bool true) w' (gv6 rfl) hb (bt hB hb) (nb6 rfl rfl)
    rotate_left 8
    ·simp [gOf6,Sq.holds,Region.binds]at hdep
     simp only [hdep]at hK⊢;have hB0:=bt HBW.out hB;go_simp;refine(Qgo _ q sg wx (HIN.out.below hB0) HSG).mono ?_;rintro e0 w' ⟨rfl,hb⟩;exact hK (.int .i64 sg) w' (gv6 rfl) hb (bt hB hb) (nb6 rfl rfl)
    have hsz:=HSZ.out;rotate_left 4
    have hk0:=HK0.out;rotate_left 9
    have hw1:=HW1.out;have hw2:=HW2.out;rotate_left
    have hw2:=HW2.out;rotate_left 3
    ·simp [gOf6,Sq.holds,Region.binds]at hdep
     simp only [hdep]at hK⊢;go_simp;refine(Qwr e.1 e.2.1 e.2.2 e1.1 e1.2.1 e1.2.2 wx V2 HV2).mono ?_;rintro e0 w' ⟨rfl,hb⟩;exact hK (.int .i64 V2) w' (gv6 rfl) hb (bt hB hb) (nb6 rfl rfl)
    rotate_left 3
    all_goals simp [gOf6,Sq.holds,Region.binds]at hdep
    all_goals try simp only [hdep]at hK⊢
    all_goals go_simp
    all_goals exact hK _ wx (gv6 rfl) (Below.refl _ _) hB (nb6 rfl rfl)
   case fine=>
    intro f wx hB hG hne;have e53:=dv6 (a:=f 53) (hG 43 (by decide)) rfl;clear hG hne;simp only [frontAct,zf1,zf2,zf3,zf4,zf5];generalize f 53=f53 at*
    subst e53;refine wpAny_done (by kernel_rfl) ?_ _;by_cases hv2:0<=V2
    ·have hdv:decide (0<=V2)=true:=decide_eq_true hv2
     rw [hdv];clear hdv;have HV3:=hid hv2;clear hv2;go_wp2_with fail
     go_ret;exact⟨Qal (Qkt (HORD.out.1 HV3.out)),bt HBW.out hB⟩
    ·have hdv:decide (0<=V2)=false:=decide_eq_false hv2
     rw [hdv];clear hdv;have HV3:=hid hv2;clear hv2;go_wp2_with fail
     exact⟨⟨k+1,HK.out,congrArg (Value.int _) (by omega),bt HBW.out hB,HORD.out.2 HV3.out⟩,by simp [intOf];have:=HK.out;omega⟩
  ·obtain rfl:k=l.length:=by omega
   have hlt:¬(l.length:Int)<(l.length:Int):=(by omega);go_wp2_with fail
   go_ret;refine⟨Qal ?_,hB⟩;exact(HV.out.2 HO.out).symm
theorem Inr.ratq{w:World}{v:Value}{q:Rat}(h:Inr w v q)(h0:q≠0):RatQ w v q:=by
 obtain⟨neg,A,n,c,A',m,c',ln,ld,rfl,h1,h2,_,_,h5⟩:=h;subst h5;by_cases hv:vld neg ln ld=true
 ·exact Qj5 hv h1 h2
 ·exact absurd (by unfold fq;rw [if_neg hv]) h0
theorem Inr.sz{w:World}{v:Value}{q:Rat}(h:Inr w v q):Sz q 1000000:=by
 by_cases h0:q=0
 ·rw [h0];exact Qcw _ (by omega)
 ·obtain⟨A,n,c,A',m,c',e,h1,h2⟩:=h.ratq h0
  obtain⟨neg,A1,n1,c1,A2,m1,c2,ln,ld,e',g1,g2,g3,g4,g5⟩:=h;rw [e]at e';simp only [Value.agg.injEq,Array.mk.injEq,List.cons.injEq,and_true,Value.bool.injEq,Value.slice.injEq]at e';obtain⟨_,⟨_,rfl,_⟩,_,rfl,_⟩:=e';refine⟨by rw [<-h1.len];exact g3,?_⟩;have hl:=h2.len;unfold dl at hl;split at hl
  ·next h=>rw [h,Qay];show 1<=1000000;omega
  ·rw [<-hl];exact g4
theorem PRe.pol{w:World}{v:Value}{l:List RawM}(h:PRe w v l)(hv:vraw l):Pol w v (cleanL l):=by
 rw [Qcg hv];unfold Pol;rw [Qov hv];obtain⟨⟨A,n,c,xs,e,h1,h2,h3⟩,_⟩:=h;refine⟨A,n,c,xs,e,h1,h2,fun i e q hi=>?_⟩;obtain⟨z0,z1,z2,hx,hr⟩:=h3 i e q hi;exact⟨z0,z1,z2,hx,hr.ratq (hv i (List.getElem?_eq_some_iff.1 hi).1 _ hi).2.1⟩
theorem PRe.szl{w:World}{v:Value}{l:List RawM}(h:PRe w v l):SzL (cleanL l) 1000000:=by
 classical
 by_cases hv:vraw l
 ·rw [Qcg hv]
  intro m hm;obtain⟨r,hr,rfl⟩:=List.mem_map.1 hm;obtain⟨i,hi,rfl⟩:=List.getElem_of_mem hr;obtain⟨⟨A,n,c,xs,e,h1,h2,h3⟩,_⟩:=h;obtain⟨z0,z1,z2,hx,hr⟩:=h3 i _ _ (List.getElem?_eq_getElem hi);exact hr.sz
 ·rw [Qc7 hv];intro m hm;cases hm
theorem Qpg{w:World}{B:Nat}{v:Value}{l:List Mon}(h:OwnP w B v l):Hid (∀A c,Hid ((Builtin.append_ #[29,29] 29 #[v,.slice A 0 c]).run prog w=.ok v w)):=hid (fun A c=>by
 obtain⟨i0,hi,hz0,hz1,hz2⟩:=info_parts Qha;obtain⟨ys,hown,_⟩:=h.row;refine hid ?_;rcases hown.2 with⟨rfl,_⟩|⟨g,cap,cur,rfl,_,_,hnc,_⟩
 ·cases A<;>simp [Builtin.append_,run_underlying underlying29,sizeOf,typeInfo,hi,Builtin.lenOf,Builtin.firstCells,hz1,loadCells,loadCellsFrom,storeCells]
 ·cases A<;>simp [Builtin.append_,run_underlying underlying29,sizeOf,typeInfo,hi,Builtin.lenOf,Builtin.firstCells,hz1,hnc,loadCells,loadCellsFrom,storeCells])
theorem Qn6(c1:Nat)(e:Ex)(q:Rat)(nb:Bool)(A B:Option Addr)(n c m k:Nat)(w:World)(hq:RatQ w (.agg #[.bool nb,.slice A n c,.slice B m k]) q)(hS:Sz q 200000)(hd:deg e<=5)(h0:q≠0):
 Calls prog 73 #[.slice none 0 c1,.agg #[.int .i64 (e.1:Int),.int .i64 (e.2.1:Int),.int .i64 (e.2.2:Int),.bool nb,.slice A n c,.slice B m k]] w (RetPol w [(e,q)]):=by
 obtain⟨hb6,d6⟩:=new6 w (.int .i64 (e.1:Int)) (.int .i64 (e.2.1:Int)) (.int .i64 (e.2.2:Int)) (.bool nb) (.slice A n c) (.slice B m k);have HQ0:=hid hq;have HSQ:=hid hS;have hkn:Hid (knownI ((e.1:Int),(e.2.1:Int),(e.2.2:Int))=true):=hid (by rw [Qgl];exact decide_eq_true hd);have HNZ:=hid h0;have y:=d6.c6;clear hq hS hd h0;go_enter func73,ntmps73;go_wp2_with fail
 generalize (w.alloc (M6 (.int .i64 (e.1:Int)) (.int .i64 (e.2.1:Int)) (.int .i64 (e.2.2:Int)) (.bool nb) (.slice A n c) (.slice B m k)))=W at*
 refine(Qb9 _ _ _ _ _ hkn).mono ?_;rintro e2 w2 ⟨rfl,hb2⟩;replace hb6:=bt hb6 hb2;replace d6:=d6.below hb2 d6.lt;replace y:=d6.c6;clear hb2 hkn;obtain⟨sg,hsg⟩:∃sg,q.num.sign=sg:=⟨_,rfl⟩;have HSG:=hid hsg;have hs0:(sg==0)=false:=by rw [<-hsg,Qeb];exact decide_eq_false HNZ.out
 have HS0:=hid hs0;clear hs0 hsg;go_wp2_with fail
 refine(Qgo _ q sg _ ((HQ0.out.below hb6).inr HSQ.out (by omega)) HSG).mono ?_;rintro e3 w3 ⟨rfl,hb3⟩;replace hb6:=bt hb6 hb3;replace d6:=d6.below hb3 d6.lt;clear hb3 y;have hs0:=HS0.out;go_wp2_with fail
 clear hs0;refine wp_loop_rounds 2 ?_;rw [rounds_succ];have HBW:=hid hb6.drew;have HD6:=hid d6.drew;clear hb6 d6
 go_upto_region 4 with(fail)
 refine Qan 15 [18,19,20,21,22,23,24,25,26,27,28,29,30,31,32] [.val (.int .i64 0),.val (.slice none 0 c1),.val (.int .i64 0),.val (.bool false),.val (.bool false),.val (undef),.val (undef),.val (undef),.val (undef),.val (undef),.val (undef),.val (undef),.val (undef),.val (undef),.val (.bool false)] (by kernel_rfl) (by kernel_rfl) (by kernel_rfl) (by kernel_rfl) ?stepa 0 (by kernel_rfl) _ rfl ?fina
 case stepa=>
  intro i hi oi ho f' wx hB hdep K hK;simp only [frontAct,zf1,zf2,zf3,zf4,zf5]at hK⊢;obtain⟨y0,y1,y2,y3,y4,y5⟩:=(HD6.out.below hB HD6.out.lt).c6;obtain rfl|rfl|rfl|rfl|rfl|rfl|rfl|rfl|rfl|rfl|rfl|rfl|rfl|rfl|rfl:=cs15 hi;all_goals
   obtain rfl:=Option.some.inj ho;simp only [Act.put,zf3,zf4,zf5]at hK
  rotate_left 15
  all_goals simp [gOf6,Sq.holds,Region.binds]at hdep
  all_goals try simp only [hdep]at hK⊢
  all_goals go_simp
  all_goals exact hK _ wx (gv6 rfl) (Below.refl _ _) hB (nb6 rfl rfl)
 case fina=>
  intro f' wx hB hG hne;have e32:=dv6 (a:=f' 32) (hG 14 (by decide)) rfl;clear hG hne;simp only [frontAct,zf1,zf2,zf3,zf4,zf5];generalize f' 32=z32 at*;subst e32;refine wpAny_done (by kernel_rfl) ?_ _;have HB1:=hid (bt HBW.out hB).drew;have HD1:=hid (HD6.out.below hB HD6.out.lt).drew;have HRUN1:=Qpg (OwnP.nil wx 0);clear hB
  go_upto_region 7 with(at_builtin;refine Qn5 rfl (.const (.slice none 0 0)) (.tmp 37) rfl rfl _ _ _ _ rfl rfl (HRUN1.out _ _) ?_)
  replace HBW:=HB1;replace HD6:=HD1;refine Qan 15 [39,40,41,42,43,44,45,46,47,48,49,50,51,52,53] [.val (.int .i64 0),.val (.slice none 0 c1),.val (.int .i64 0),.val (.bool true),.val (.bool true),.val (undef),.val (undef),.val (undef),.val (undef),.val (undef),.val (undef),.val (undef),.val (undef),.val (undef),.val (.bool true)] (by kernel_rfl) (by kernel_rfl) (by kernel_rfl) (by kernel_rfl) ?stepb 0 (by kernel_rfl) _ rfl ?finb
  case stepb=>
   intro i hi oi ho f' wx hB hdep K hK;simp only [frontAct,zf1,zf2,zf3,zf4,zf5]at hK⊢;obtain⟨y0,y1,y2,y3,y4,y5⟩:=(HD6.out.below hB HD6.out.lt).c6;obtain rfl|rfl|rfl|rfl|rfl|rfl|rfl|rfl|rfl|rfl|rfl|rfl|rfl|rfl|rfl:=cs15 hi;all_goals
    obtain rfl:=Option.some.inj ho;simp only [Act.put,zf3,zf4,zf5]at hK
   rotate_left 15
   all_goals simp [gOf6,Sq.holds,Region.binds]at hdep
   all_goals try simp only [hdep]at hK⊢
   all_goals go_simp
   all_goals exact hK _ wx (gv6 rfl) (Below.refl _ _) hB (nb6 rfl rfl)
  case finb=>
   intro f' wx hB hG hne;have e53:=dv6 (a:=f' 53) (hG 14 (by decide)) rfl;clear hG hne;simp only [frontAct,zf1,zf2,zf3,zf4,zf5];generalize f' 53=z53 at*;subst e53;refine wpAny_done (by kernel_rfl) ?_ _;have hBy:=bt HBW.out hB;have D6y:=HD6.out.below hB HD6.out.lt;have HBY:=hid hBy.drew;obtain⟨hb8,d8⟩:=new6 wx.drew (.int .i64 (e.1:Int)) (.int .i64 (e.2.1:Int)) (.int .i64 (e.2.2:Int)) (.bool nb) (.slice A n c) (.slice B m k);have hB8:=bt HBY.out hb8;obtain⟨v2,w2',HRUN2,hown2,hg2,hk2⟩:=(OwnP.nil (wx.drew.alloc (M6 (.int .i64 (e.1:Int)) (.int .i64 (e.2.1:Int)) (.int .i64 (e.2.2:Int)) (.bool nb) (.slice A n c) (.slice B m k))) w.heap.size).app1 (m:=(e,q)) d8 (HQ0.out.below hB8) (by simp) hB8.size;have hB9:=hB8.grown hg2 hB8.size (fun j e=>by cases e);have HRUN3:=Qpg hown2;have HEND:Hid (RetPol w [(e,q)] (.returned v2) w2'):=hid ⟨v2,rfl,hown2.pol,hB9⟩;obtain⟨y0,y1,y2,y3,y4,y5⟩:=D6y.drew.c6;clear hBy D6y hb8 d8 hB8 hown2 hg2 hk2 hB9 hB
   go_upto_region 8 with(fail)
   go_region_law (first|(refine Qia rfl (.tmp 54) (.tmp 56) rfl rfl _ _ _ _ rfl rfl HRUN2 ?_)|(refine Qia rfl (.tmp 57) (.tmp 60) rfl rfl _ _ _ _ rfl rfl (HRUN3.out _ _) ?_)|fail)
   all_goals go_wp2_with fail
   all_goals go_ret
   all_goals exact HEND.out
theorem Pol.pre{w:World}{v:Value}{l:List Mon}{L:Nat}(h:Pol w v l)(hs:SzL l L)(hL:L<=1000000)(hn:l.length<=1000000):PRe w v (l.map rawOf):=by
 refine⟨?_,by rw [List.length_map];exact hn⟩;obtain⟨A,n,c,xs,e,h1,h2,h3⟩:=h;refine⟨A,n,c,xs,e,h1,h2,fun i e q hi=>?_⟩;obtain⟨z0,z1,z2,hx,hr⟩:=h3 i e q hi;refine⟨z0,z1,z2,hx,hr.inr ?_ hL⟩;rw [List.getElem?_map]at hi;obtain⟨m,hm,he⟩:=Option.map_eq_some_iff.1 hi;have:=hs m (List.mem_of_getElem? hm);rw [show m.2=q from congrArg Prod.snd he]at this;exact this
theorem Qq5{c:Co}{L:Nat}(h:SzC c L):SzL (listOf c) L:=fun m hm=>by
 obtain⟨h1,_,h3⟩:=Qb6.1 hm;rw [h3];exact h m.1 h1
theorem Quk{x:Rat}{L:Nat}(h:Sz x L)(hL:1<=L):SzL (listOf (constC x)) L:=Qq5 (Qmb h hL)
theorem Pol.setL{w:World}{v:Value}{l:List Mon}(h:Pol w v l){g k:Nat}{ls:List Value}{t:TypeId}(hr:Cs w g ls t)(hl:∀v∈ls,(∀x:Nat,v≠ .int .u32 (x:Int))/\∀x:Int,v≠ .int .i64 x)(us:List Value):Pol (Go.Proofs.YthbhgelncdnmgaaGreatDoor.setL w g k us) v l:=by
 obtain⟨A,n,c,xs,rfl,hrd,hlen,hat⟩:=h;refine⟨A,n,c,xs,rfl,⟨hrd.len,hrd.cap,fun hn=>?_⟩,hlen,fun i e q hi=>?_⟩
 ·obtain⟨b,o,rfl,hb,hc⟩:=hrd.cells hn
  refine⟨b,o,rfl,by rw [Qfv];exact hb,?_⟩;have hne:b≠g:=by
   rintro rfl;obtain⟨⟨e,q⟩,h0⟩:∃m,(l.map rawOf)[0]? =some m:=⟨_,List.getElem?_eq_getElem (by have:=hrd.len;omega)⟩;obtain⟨z0,z1,z2,hx,_⟩:=hat 0 e q h0;have hc0:=hc 0 _ hx 0 _ rfl;rw [cell_of_row w b _ _ _ _ hr,List.getElem?_toArray]at hc0;exact(hl _ (List.mem_of_getElem? hc0)).2 _ rfl
  intro i x hx j u hu;have h1:=hc i x hx j u hu;unfold World.cell? at h1⊢;simp only []at h1⊢;rw [Qmx hne us k w];exact h1
 ·obtain⟨z0,z1,z2,hx,hq⟩:=hat i e q hi
  exact⟨z0,z1,z2,hx,hq.setL hr (fun v hv=>(hl v hv).1) us⟩
abbrev A9(z:Nat->Value):List Value:=[z 0,z 1,z 2,z 3,z 4,z 5,z 6,z 7,z 8]
theorem A9.at{w:World}{g:Nat}{z:Nat->Value}{t:TypeId}(h:Cs w g (A9 z) t){i:Nat}(hi:i<3):w.cell? ⟨g,i*3,none⟩=some (z (i*3))/\w.cell? ⟨g,i*3+1,none⟩=some (z (i*3+1))/\w.cell? ⟨g,i*3+2,none⟩=some (z (i*3+2)):=by
 match i,hi with
 |0,_=>exact⟨h.cell rfl,h.cell rfl,h.cell rfl⟩
 |1,_=>exact⟨h.cell rfl,h.cell rfl,h.cell rfl⟩
 |2,_=>exact⟨h.cell rfl,h.cell rfl,h.cell rfl⟩
theorem Qmy(a:Int):a.sign<0↔a<0:=by
 match a with
 | .ofNat 0=>simp
 | .ofNat (n+1)=>simp [Int.sign];omega
 | .negSucc n=>simp [Int.sign]
theorem Qzd(x y:Rat):((x-y).num.sign<0)↔x<y:=by
 rw [Qmy,<-Int.not_le,Rat.num_nonneg];constructor<;>intro h<;>grind
theorem r_Less(v v':Value)(x y:Rat)(V:Bool)(w:World)(h:Inr w v x)(h':Inr w v' y)(sx:Sz x 400000)(sy:Sz y 400000)(H:Hid (decide (x<y)=V)):Calls prog 51 #[v,v'] w (RetV w (.bool V)):=by
 obtain⟨x0,A,n,c,B,m,d,rfl⟩:=h.agg;obtain⟨y0,C,n2,c2,D,m2,d2,rfl⟩:=h'.agg;obtain⟨hb,c1,c3⟩:=blk2 w [.bool x0,.slice A n c,.slice B m d] [.bool y0,.slice C n2 c2,.slice D m2 d2] 27 27;obtain⟨a0,a1,a2⟩:=c1.c3;obtain⟨b0,b1,b2⟩:=c3.c3;obtain⟨sg,hsg⟩:∃sg,(x-y).num.sign=sg:=⟨_,rfl⟩;have hv:decide (sg<0)=V:=by rw [<-hsg,<-H.out];exact decide_eq_decide.2 (Qzd x y)
 have HC:=hid (Qs7 _ _ x y _ (h.below hb) (h'.below hb) sx sy);rw [hsg]at HC;have HB:=hid hb;clear h h' hb c1 c3 hsg;go_enter func51,ntmps51;go_wp2_with fail
 refine HC.out.mono ?_;rintro e w2 ⟨rfl,hb2⟩;go_wp2_with fail
 go_ret;exact⟨rfl,bt HB.out hb2⟩
abbrev U8:TypeId:=5
theorem Cs.kept{w w':World}{g b:Nat}{l:List Value}{t:TypeId}(h:Cs w g l t)(hk:Lib.OthersKept U8 (some b) w w')(hne:g≠b)(ht:t≠U8):Cs w' g l t:=
 hk g _ h (fun e=>hne (Option.some.inj e)) (fun c fz e=>by cases e;exact ht rfl)
end Go.Proofs.YthbhgelncdnmgaaGreatDoor
