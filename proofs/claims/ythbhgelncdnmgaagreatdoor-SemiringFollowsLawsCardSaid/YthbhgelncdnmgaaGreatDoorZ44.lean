import Derived.Test.YthbhgelncdnmgaaGreatDoorZ43
import Derived.Test.YthbhgelncdnmgaaGreatDoorZ19
set_option linter.unusedVariables false
set_option linter.unusedSimpArgs false
set_option maxRecDepth 40000
set_option maxHeartbeats 16000000
namespace Go.Proofs.YthbhgelncdnmgaaGreatDoor
open Go.Proofs.Tryz
open Lib (hid)
open Nat (le_refl le_trans zero_le lt_of_lt_of_le lt_or_ge)
open Go.RowKit
def PRe(w:World)(v:Value)(l:List RawM):Prop:=PBy (fun z q=>Inr w z q) w v l/\l.length<=1000000
theorem PRe.below{w w':World}{v:Value}{l:List RawM}(h:PRe w v l)(hb:Below w.heap.size w w'):PRe w' v l:=⟨h.1.imp (fun _ _ hr=>hr.below hb) hb.size hb.block,h.2⟩
theorem PRe.at6{w:World}{A:Option Addr}{n c:Nat}{l:List RawM}(h:PRe w (.slice A n c) l){i:Nat}{e:Int × Int × Int}{q:Rat}(hi:l[i]? =some (e,q)):
 ∃b o nb A' n' c' B' m' e',A=some ⟨b,o,none⟩/\b<w.heap.size/\At6 w b (o+i*6) (.int .i64 e.1) (.int .i64 e.2.1) (.int .i64 e.2.2) (.bool nb) (.slice A' n' c') (.slice B' m' e')/\Inr w (.agg #[.bool nb,.slice A' n' c',.slice B' m' e']) q:=by
 obtain⟨b,o,z0,z1,z2,hA,hb,hat,hr⟩:=h.1.at hi;obtain⟨nb,A',n',c',B',m',e',heq⟩:=hr.agg;simp only [Value.agg.injEq,Array.mk.injEq,List.cons.injEq,and_true]at heq;obtain⟨rfl,rfl,rfl⟩:=heq;exact⟨b,o,nb,A',n',c',B',m',e',hA,hb,hat,hr⟩
theorem Inr.parts{w:World}{q:Rat}{nb:Bool}{A B:Option Addr}{n c m d:Nat}(h:Inr w (.agg #[.bool nb,.slice A n c,.slice B m d]) q):∃ln ld,Num w ln A n c/\Num w ld B m d/\n<=1000000/\m<=1000000/\fq nb ln ld=q:=by
 obtain⟨neg,A1,n1,c1,A2,m1,c2,ln,ld,e,h1,h2,h3,h4,h5⟩:=h;simp only [Value.agg.injEq,Array.mk.injEq,List.cons.injEq,and_true,Value.bool.injEq,Value.slice.injEq]at e;obtain⟨rfl,⟨rfl,rfl,rfl⟩,rfl,rfl,rfl⟩:=e;exact⟨ln,ld,h1,h2,h3,h4,h5⟩
theorem Qeb(v:Value)(q:Rat)(sg:Int)(w:World)(h:Inr w v q)(hs:Hid (q.num.sign=sg)):Calls prog 69 #[v] w (RetV w (.int .i64 sg)):=by
 rw [<-hs.out];exact Qxz v q w h
theorem Qni(e f:Int × Int × Int):lexI e f= - lexI f e:=by
 unfold lexI
 repeat' split
 all_goals omega
theorem Qln{V:Bool}{l:List RawM}{k:Nat}(h:Hid ((V=true↔vraw l)/\k<l.length/\¬okAt l k)):false=V:=by
 cases V
 ·rfl
 ·exact absurd (h.out.1.1 rfl k h.out.2.1) h.out.2.2
theorem Qqi(v:Value)(l:List RawM)(w:World)(h:PRe w v l)(V:Bool)(HV:Hid (V=true↔vraw l)):Calls prog 70 #[v] w (RetV w (.bool V)):=by
 obtain⟨A,cap,rfl⟩:=PBy.slice h.1;have hlen:=h.2;go_enter func70,ntmps70;go_wp2_with fail
 go_loopw [3] (fun i wr=> ∃k,k<=l.length/\i=.int .i64 (k:Int)/\Below w.heap.size w wr/\Hid (∀j,j<k->okAt l j)) (fun i _=>(l.length-intOf i).toNat)
 case atStart=>exact⟨0,zero_le _,rfl,Below.refl _ _,show Hid _ from fun j h1=>by omega⟩
 case round=>
  obtain⟨k,hk,rfl,hB,HO⟩:=hrel;rcases lt_or_ge k l.length with hkn|hkn
  ·obtain⟨⟨e,q⟩,hm⟩:∃m,l[k]? =some m:=⟨l[k],List.getElem?_eq_getElem hkn⟩
   obtain⟨b,o,nb,A',n',c',B',m',d',rfl,hb,hat,hr⟩:=h.at6 hm;obtain⟨ln,ld,hn1,hn2,hs1,hs2,hfq⟩:=hr.parts;have hltk:(k:Int)<(l.length:Int):=(by omega);have HK:=hid hkn;have HM:=hid hm;have HBW:=hid hB.drew;have HAT:Hid (At6 wr.drew b (o+k*6) _ _ _ _ _ _):=hid ((hat.below hB hb).below (Below.refl _ _).drew (lt_of_lt_of_le hb hB.size));have HLT:Hid (b<wr.drew.heap.size):=hid (lt_of_lt_of_le hb hB.size);have HN1:=hid hn1;have HN2:=hid hn2;have HSN:=hid (And.intro hs1 hs2);have HIN:=hid hr;have HFQ:=hid hfq;have HPW:=hid h;clear hk hkn hm hB hat hb hn1 hn2 hs1 hs2 hr hfq h;obtain⟨kn,hkn⟩:∃kn,knownI (e.1,e.2.1,e.2.2)=kn:=⟨_,rfl⟩;have hke:knownI e=kn:=hkn;cases kn
   ·have HKN:=hid hkn
    have HNO:Hid ((V=true↔vraw l)/\k<l.length/\¬okAt l k):=hid ⟨HV.out,HK.out,fun ho=>by have:=(ho _ HM.out).1;rw [hke]at this;cases this⟩;clear hkn hke
    go_upto_region 4 with(fail)
    refine Qag 44 [10,11,12,13,14,15,16,17,18,19,20,21,22,23,24,25,26,27,28,29,30,31,32,33,34,35,36,37,38,39,40,41,42,43,44,45,46,47,48,49,50,51,52,53] [.val (.slice (some ⟨b,o,none⟩) l.length cap),.val (.int .i64 (k:Int)),.val (.pointer (some ⟨b,o+k*6,none⟩)),.val (.pointer (some ⟨b,o+k*6,none⟩)),.val (.agg #[.int .i64 e.1,.int .i64 e.2.1,.int .i64 e.2.2]),.val (.bool false),.val (.bool true),.val (.bool true),.val (undef),.val (undef),.val (undef),.val (undef),.val (undef),.val (undef),.val (undef),.val (.bool true),.val (.bool true),.val (undef),.val (undef),.val (undef),.val (undef),.val (undef),.val (undef),.val (undef),.val (.bool true),.val (.bool true),.val (undef),.val (undef),.val (undef),.val (undef),.val (undef),.val (undef),.val (undef),.val (undef),.val (undef),.val (undef),.val (undef),.val (undef),.val (undef),.val (undef),.val (undef),.val (undef),.val (undef),.val (.bool true)] (by kernel_rfl) (by kernel_rfl) (by kernel_rfl) (by kernel_rfl) ?stepa 0 (by kernel_rfl) _ rfl ?fina
    case stepa=>
     intro i hi oi ho f wx hB hdep K hK;simp only [frontAct,zf1,zf2,zf3,zf4,zf5]at hK⊢;obtain⟨x0,x1,x2,x3,x4,x5⟩:=HAT.out.below hB HLT.out;obtain rfl|rfl|rfl|rfl|rfl|rfl|rfl|rfl|rfl|rfl|rfl|rfl|rfl|rfl|rfl|rfl|rfl|rfl|rfl|rfl|rfl|rfl|rfl|rfl|rfl|rfl|rfl|rfl|rfl|rfl|rfl|rfl|rfl|rfl|rfl|rfl|rfl|rfl|rfl|rfl|rfl|rfl|rfl|rfl:=cs44 hi;all_goals
      obtain rfl:=Option.some.inj ho;simp only [Act.put,zf3,zf4,zf5]at hK
     rotate_left 5
     ·simp [gOf6,Sq.holds,Region.binds]at hdep
      simp only [hdep]at hK⊢;go_simp;refine(Qa9 e.1 e.2.1 e.2.2 wx false HKN).mono ?_;rintro e0 w' ⟨rfl,hb⟩;exact hK (.bool false) w' (gv6 rfl) hb (bt hB hb) (nb6 rfl rfl)
     rotate_left 38
     all_goals simp [gOf6,Sq.holds,Region.binds]at hdep
     all_goals try simp only [hdep]at hK⊢
     all_goals go_simp
     all_goals exact hK _ wx (gv6 rfl) (Below.refl _ _) hB (nb6 rfl rfl)
    case fina=>
     intro f wx hB hG hne;have e53:=dv6 (a:=f 53) (hG 43 (by decide)) rfl;clear hG hne;simp only [frontAct,zf1,zf2,zf3,zf4,zf5];generalize f 53=f53 at*
     subst e53;refine wpAny_done (by kernel_rfl) ?_ _;go_wp2_with fail
     go_ret;exact⟨Qal (Qln HNO),bt HBW.out hB⟩
   have HKN:=hid hkn;have HKE:=hid hke;clear hkn hke;obtain⟨vd,hvd⟩:∃vd,vld nb ln ld=vd:=⟨_,rfl⟩;cases vd
   ·have HVD:=hid hvd
    have HNO:Hid ((V=true↔vraw l)/\k<l.length/\¬okAt l k):=hid ⟨HV.out,HK.out,fun ho=>(ho _ HM.out).2.1 (by show q=0;rw [<-HFQ.out];unfold fq;rw [HVD.out];rfl)⟩;clear hvd
    go_upto_region 4 with(fail)
    refine Qag 44 [10,11,12,13,14,15,16,17,18,19,20,21,22,23,24,25,26,27,28,29,30,31,32,33,34,35,36,37,38,39,40,41,42,43,44,45,46,47,48,49,50,51,52,53] [.val (.slice (some ⟨b,o,none⟩) l.length cap),.val (.int .i64 (k:Int)),.val (.pointer (some ⟨b,o+k*6,none⟩)),.val (.pointer (some ⟨b,o+k*6,none⟩)),.val (.agg #[.int .i64 e.1,.int .i64 e.2.1,.int .i64 e.2.2]),.val (.bool true),.val (.bool false),.val (.bool false),.val (.slice (some ⟨b,o,none⟩) l.length cap),.val (.int .i64 (k:Int)),.val (.pointer (some ⟨b,o+k*6,none⟩)),.val (.pointer (some ⟨b,o+k*6+3,none⟩)),.val (.agg #[.bool nb,.slice A' n' c',.slice B' m' d']),.val (.bool false),.val (.bool true),.val (.bool true),.val (.bool true),.val (undef),.val (undef),.val (undef),.val (undef),.val (undef),.val (undef),.val (undef),.val (.bool true),.val (.bool true),.val (undef),.val (undef),.val (undef),.val (undef),.val (undef),.val (undef),.val (undef),.val (undef),.val (undef),.val (undef),.val (undef),.val (undef),.val (undef),.val (undef),.val (undef),.val (undef),.val (undef),.val (.bool true)] (by kernel_rfl) (by kernel_rfl) (by kernel_rfl) (by kernel_rfl) ?stepb 0 (by kernel_rfl) _ rfl ?finb
    case stepb=>
     intro i hi oi ho f wx hB hdep K hK;simp only [frontAct,zf1,zf2,zf3,zf4,zf5]at hK⊢;obtain⟨x0,x1,x2,x3,x4,x5⟩:=HAT.out.below hB HLT.out;obtain rfl|rfl|rfl|rfl|rfl|rfl|rfl|rfl|rfl|rfl|rfl|rfl|rfl|rfl|rfl|rfl|rfl|rfl|rfl|rfl|rfl|rfl|rfl|rfl|rfl|rfl|rfl|rfl|rfl|rfl|rfl|rfl|rfl|rfl|rfl|rfl|rfl|rfl|rfl|rfl|rfl|rfl|rfl|rfl:=cs44 hi;all_goals
      obtain rfl:=Option.some.inj ho;simp only [Act.put,zf3,zf4,zf5]at hK
     rotate_left 5
     ·simp [gOf6,Sq.holds,Region.binds]at hdep
      simp only [hdep]at hK⊢;go_simp;refine(Qa9 e.1 e.2.1 e.2.2 wx true HKN).mono ?_;rintro e0 w' ⟨rfl,hb⟩;exact hK (.bool true) w' (gv6 rfl) hb (bt hB hb) (nb6 rfl rfl)
     rotate_left 7
     ·simp [gOf6,Sq.holds,Region.binds]at hdep
      simp only [hdep]at hK⊢;have hB0:=bt HBW.out hB;go_simp;refine(Qif nb A' B' n' c' m' d' ln ld wx false (HN1.out.below hB0) (HN2.out.below hB0) HSN.out.1 HSN.out.2 HVD).mono ?_;rintro e0 w' ⟨rfl,hb⟩;exact hK (.bool false) w' (gv6 rfl) hb (bt hB hb) (nb6 rfl rfl)
     rotate_left 30
     all_goals simp [gOf6,Sq.holds,Region.binds]at hdep
     all_goals try simp only [hdep]at hK⊢
     all_goals go_simp
     all_goals exact hK _ wx (gv6 rfl) (Below.refl _ _) hB (nb6 rfl rfl)
    case finb=>
     intro f wx hB hG hne;have e53:=dv6 (a:=f 53) (hG 43 (by decide)) rfl;clear hG hne;simp only [frontAct,zf1,zf2,zf3,zf4,zf5];generalize f 53=f53 at*
     subst e53;refine wpAny_done (by kernel_rfl) ?_ _;go_wp2_with fail
     go_ret;exact⟨Qal (Qln HNO),bt HBW.out hB⟩
   have HVD:=hid hvd;clear hvd;obtain⟨sg,hsg⟩:∃sg,q.num.sign=sg:=⟨_,rfl⟩;have HSG:=hid hsg;by_cases hq:q=0
   ·have HSZ:Hid ((sg==0)=true):=hid (by rw [<-HSG.out,Qcj,hq];rfl)
    have HNO:Hid ((V=true↔vraw l)/\k<l.length/\¬okAt l k):=hid ⟨HV.out,HK.out,fun ho=>(ho _ HM.out).2.1 hq⟩;clear hq hsg
    go_upto_region 4 with(fail)
    refine Qag 44 [10,11,12,13,14,15,16,17,18,19,20,21,22,23,24,25,26,27,28,29,30,31,32,33,34,35,36,37,38,39,40,41,42,43,44,45,46,47,48,49,50,51,52,53] [.val (.slice (some ⟨b,o,none⟩) l.length cap),.val (.int .i64 (k:Int)),.val (.pointer (some ⟨b,o+k*6,none⟩)),.val (.pointer (some ⟨b,o+k*6,none⟩)),.val (.agg #[.int .i64 e.1,.int .i64 e.2.1,.int .i64 e.2.2]),.val (.bool true),.val (.bool false),.val (.bool false),.val (.slice (some ⟨b,o,none⟩) l.length cap),.val (.int .i64 (k:Int)),.val (.pointer (some ⟨b,o+k*6,none⟩)),.val (.pointer (some ⟨b,o+k*6+3,none⟩)),.val (.agg #[.bool nb,.slice A' n' c',.slice B' m' d']),.val (.bool true),.val (.bool false),.val (.bool false),.val (.bool false),.val (.slice (some ⟨b,o,none⟩) l.length cap),.val (.int .i64 (k:Int)),.val (.pointer (some ⟨b,o+k*6,none⟩)),.val (.pointer (some ⟨b,o+k*6+3,none⟩)),.val (.agg #[.bool nb,.slice A' n' c',.slice B' m' d']),.val (.int .i64 sg),.val (.bool true),.val (.bool true),.val (.bool true),.val (undef),.val (undef),.val (undef),.val (undef),.val (undef),.val (undef),.val (undef),.val (undef),.val (undef),.val (undef),.val (undef),.val (undef),.val (undef),.val (undef),.val (undef),.val (undef),.val (undef),.val (.bool true)] (by kernel_rfl) (by kernel_rfl) (by kernel_rfl) (by kernel_rfl) ?stepc 0 (by kernel_rfl) _ rfl ?finc
    case stepc=>
     intro i hi oi ho f wx hB hdep K hK;simp only [frontAct,zf1,zf2,zf3,zf4,zf5]at hK⊢;obtain⟨x0,x1,x2,x3,x4,x5⟩:=HAT.out.below hB HLT.out;obtain rfl|rfl|rfl|rfl|rfl|rfl|rfl|rfl|rfl|rfl|rfl|rfl|rfl|rfl|rfl|rfl|rfl|rfl|rfl|rfl|rfl|rfl|rfl|rfl|rfl|rfl|rfl|rfl|rfl|rfl|rfl|rfl|rfl|rfl|rfl|rfl|rfl|rfl|rfl|rfl|rfl|rfl|rfl|rfl:=cs44 hi;all_goals
      obtain rfl:=Option.some.inj ho;simp only [Act.put,zf3,zf4,zf5]at hK
     rotate_left 5
     ·simp [gOf6,Sq.holds,Region.binds]at hdep
      simp only [hdep]at hK⊢;go_simp;refine(Qa9 e.1 e.2.1 e.2.2 wx true HKN).mono ?_;rintro e0 w' ⟨rfl,hb⟩;exact hK (.bool true) w' (gv6 rfl) hb (bt hB hb) (nb6 rfl rfl)
     rotate_left 7
     ·simp [gOf6,Sq.holds,Region.binds]at hdep
      simp only [hdep]at hK⊢;have hB0:=bt HBW.out hB;go_simp;refine(Qif nb A' B' n' c' m' d' ln ld wx true (HN1.out.below hB0) (HN2.out.below hB0) HSN.out.1 HSN.out.2 HVD).mono ?_;rintro e0 w' ⟨rfl,hb⟩;exact hK (.bool true) w' (gv6 rfl) hb (bt hB hb) (nb6 rfl rfl)
     rotate_left 8
     ·simp [gOf6,Sq.holds,Region.binds]at hdep
      simp only [hdep]at hK⊢;have hB0:=bt HBW.out hB;go_simp;refine(Qeb _ q sg wx (HIN.out.below hB0) HSG).mono ?_;rintro e0 w' ⟨rfl,hb⟩;exact hK (.int .i64 sg) w' (gv6 rfl) hb (bt hB hb) (nb6 rfl rfl)
     have hsz:=HSZ.out;rotate_left 21
     all_goals simp [gOf6,Sq.holds,Region.binds]at hdep
     all_goals try simp only [hdep]at hK⊢
     all_goals go_simp
     all_goals exact hK _ wx (gv6 rfl) (Below.refl _ _) hB (nb6 rfl rfl)
    case finc=>
     intro f wx hB hG hne;have e53:=dv6 (a:=f 53) (hG 43 (by decide)) rfl;clear hG hne;simp only [frontAct,zf1,zf2,zf3,zf4,zf5];generalize f 53=f53 at*
     subst e53;refine wpAny_done (by kernel_rfl) ?_ _;go_wp2_with fail
     go_ret;exact⟨Qal (Qln HNO),bt HBW.out hB⟩
   have HSZ:Hid ((sg==0)=false):=hid (by rw [<-HSG.out,Qcj];exact decide_eq_false hq);have HQ0:=hid hq;clear hq hsg;by_cases h0:k=0
   ·have HK0:Hid (decide (0<k)=false):=hid (decide_eq_false (by omega))
    have HYES:Hid (Hid (∀j,j<k+1->okAt l j)):=hid (hid (Qga HO.out (fun m hm2=>by
     obtain rfl:(e,q)=m:=Option.some.inj (HM.out.symm.trans hm2);exact⟨HKE.out,HQ0.out,fun h=>absurd h (by omega)⟩)))
    clear h0
    go_upto_region 4 with(fail)
    refine Qag 44 [10,11,12,13,14,15,16,17,18,19,20,21,22,23,24,25,26,27,28,29,30,31,32,33,34,35,36,37,38,39,40,41,42,43,44,45,46,47,48,49,50,51,52,53] [.val (.slice (some ⟨b,o,none⟩) l.length cap),.val (.int .i64 (k:Int)),.val (.pointer (some ⟨b,o+k*6,none⟩)),.val (.pointer (some ⟨b,o+k*6,none⟩)),.val (.agg #[.int .i64 e.1,.int .i64 e.2.1,.int .i64 e.2.2]),.val (.bool true),.val (.bool false),.val (.bool false),.val (.slice (some ⟨b,o,none⟩) l.length cap),.val (.int .i64 (k:Int)),.val (.pointer (some ⟨b,o+k*6,none⟩)),.val (.pointer (some ⟨b,o+k*6+3,none⟩)),.val (.agg #[.bool nb,.slice A' n' c',.slice B' m' d']),.val (.bool true),.val (.bool false),.val (.bool false),.val (.bool false),.val (.slice (some ⟨b,o,none⟩) l.length cap),.val (.int .i64 (k:Int)),.val (.pointer (some ⟨b,o+k*6,none⟩)),.val (.pointer (some ⟨b,o+k*6+3,none⟩)),.val (.agg #[.bool nb,.slice A' n' c',.slice B' m' d']),.val (.int .i64 sg),.val (.bool false),.val (.bool false),.val (.bool false),.val (.int .i64 (k:Int)),.val (.bool false),.val (.bool false),.val (undef),.val (undef),.val (undef),.val (undef),.val (undef),.val (undef),.val (undef),.val (undef),.val (undef),.val (undef),.val (undef),.val (undef),.val (undef),.val (.bool false),.val (.bool false)] (by kernel_rfl) (by kernel_rfl) (by kernel_rfl) (by kernel_rfl) ?stepd 0 (by kernel_rfl) _ rfl ?find
    case stepd=>
     intro i hi oi ho f wx hB hdep K hK;simp only [frontAct,zf1,zf2,zf3,zf4,zf5]at hK⊢;obtain⟨x0,x1,x2,x3,x4,x5⟩:=HAT.out.below hB HLT.out;obtain rfl|rfl|rfl|rfl|rfl|rfl|rfl|rfl|rfl|rfl|rfl|rfl|rfl|rfl|rfl|rfl|rfl|rfl|rfl|rfl|rfl|rfl|rfl|rfl|rfl|rfl|rfl|rfl|rfl|rfl|rfl|rfl|rfl|rfl|rfl|rfl|rfl|rfl|rfl|rfl|rfl|rfl|rfl|rfl:=cs44 hi;all_goals
      obtain rfl:=Option.some.inj ho;simp only [Act.put,zf3,zf4,zf5]at hK
     rotate_left 5
     ·simp [gOf6,Sq.holds,Region.binds]at hdep
      simp only [hdep]at hK⊢;go_simp;refine(Qa9 e.1 e.2.1 e.2.2 wx true HKN).mono ?_;rintro e0 w' ⟨rfl,hb⟩;exact hK (.bool true) w' (gv6 rfl) hb (bt hB hb) (nb6 rfl rfl)
     rotate_left 7
     ·simp [gOf6,Sq.holds,Region.binds]at hdep
      simp only [hdep]at hK⊢;have hB0:=bt HBW.out hB;go_simp;refine(Qif nb A' B' n' c' m' d' ln ld wx true (HN1.out.below hB0) (HN2.out.below hB0) HSN.out.1 HSN.out.2 HVD).mono ?_;rintro e0 w' ⟨rfl,hb⟩;exact hK (.bool true) w' (gv6 rfl) hb (bt hB hb) (nb6 rfl rfl)
     rotate_left 8
     ·simp [gOf6,Sq.holds,Region.binds]at hdep
      simp only [hdep]at hK⊢;have hB0:=bt HBW.out hB;go_simp;refine(Qeb _ q sg wx (HIN.out.below hB0) HSG).mono ?_;rintro e0 w' ⟨rfl,hb⟩;exact hK (.int .i64 sg) w' (gv6 rfl) hb (bt hB hb) (nb6 rfl rfl)
     have hsz:=HSZ.out;rotate_left 4
     have hk0:=HK0.out;rotate_left 17
     all_goals simp [gOf6,Sq.holds,Region.binds]at hdep
     all_goals try simp only [hdep]at hK⊢
     all_goals go_simp
     all_goals exact hK _ wx (gv6 rfl) (Below.refl _ _) hB (nb6 rfl rfl)
    case find=>
     intro f wx hB hG hne;have e53:=dv6 (a:=f 53) (hG 43 (by decide)) rfl;clear hG hne;simp only [frontAct,zf1,zf2,zf3,zf4,zf5];generalize f 53=f53 at*
     subst e53;refine wpAny_done (by kernel_rfl) ?_ _;go_wp2_with fail
     exact⟨⟨k+1,HK.out,congrArg (Value.int _) (by omega),bt HBW.out hB,HYES.out⟩,by simp [intOf];have:=HK.out;omega⟩
   have HK0:Hid (decide (0<k)=true):=hid (decide_eq_true (by omega));obtain⟨⟨e1,q1⟩,hm1⟩:∃m,l[k-1]? =some m:=⟨l[k-1],List.getElem?_eq_getElem (by have:=HK.out;omega)⟩;obtain⟨b1,o1,nb1,A1,n1,c1,B1,m1,d1,heq,hb1,hat1,_⟩:=HPW.out.at6 hm1;obtain⟨rfl,rfl⟩:b1=b/\o1=o:=by simpa [eq_comm] using heq
   obtain⟨k1,hk1⟩:∃k1,k-1=k1:=⟨_,rfl⟩;rw [hk1]at hat1;have HAP:Hid (At6 wr.drew b1 (o1+k1*6) _ _ _ _ _ _):=hid (hat1.below HBW.out hb1);have HW1:Hid (IntKind.i64.wrap ((k:Int) - 1)=(k1:Int)):=hid (by rw [show(k:Int) - 1=(k1:Int)by omega];exact IntWalk.i64_in _ (by have:=HK.out;omega));have HW2:Hid ((k1:Int)<(l.length:Int)):=hid (by have:=HK.out;omega);obtain⟨V2,hV2⟩:∃V2,lexI (e.1,e.2.1,e.2.2) (e1.1,e1.2.1,e1.2.2)=V2:=⟨_,rfl⟩;have HV2:=hid hV2;have hle:lexI e1 e= - V2:=by rw [Qni];exact congrArg (fun z=> -z) hV2
   have HORD:Hid ((0<=V2->Hid ((V=true↔vraw l)/\k<l.length/\¬okAt l k))/\(¬0<=V2->Hid (∀j,j<k+1->okAt l j))):=hid ⟨fun hv=>hid ⟨HV.out,HK.out,fun ho=>by
    have h3:=(ho _ HM.out).2.2 (by omega) (e1,q1) hm1;have h3':0<lexI e1 e:=h3;rw [hle]at h3';omega⟩,fun hv=>hid (Qga HO.out (fun m hm2=>by
    obtain rfl:(e,q)=m:=Option.some.inj (HM.out.symm.trans hm2);refine⟨HKE.out,HQ0.out,fun _ p hp=>?_⟩;obtain rfl:(e1,q1)=p:=Option.some.inj (hm1.symm.trans hp);show 0<lexI e1 e;rw [hle];omega))⟩
   clear hm1 hat1 hb1 heq h0 hV2 hle hk1
   go_upto_region 4 with(fail)
   refine Qag 44 [10,11,12,13,14,15,16,17,18,19,20,21,22,23,24,25,26,27,28,29,30,31,32,33,34,35,36,37,38,39,40,41,42,43,44,45,46,47,48,49,50,51,52,53] [.val (.slice (some ⟨b1,o1,none⟩) l.length cap),.val (.int .i64 (k:Int)),.val (.pointer (some ⟨b1,o1+k*6,none⟩)),.val (.pointer (some ⟨b1,o1+k*6,none⟩)),.val (.agg #[.int .i64 e.1,.int .i64 e.2.1,.int .i64 e.2.2]),.val (.bool true),.val (.bool false),.val (.bool false),.val (.slice (some ⟨b1,o1,none⟩) l.length cap),.val (.int .i64 (k:Int)),.val (.pointer (some ⟨b1,o1+k*6,none⟩)),.val (.pointer (some ⟨b1,o1+k*6+3,none⟩)),.val (.agg #[.bool nb,.slice A' n' c',.slice B' m' d']),.val (.bool true),.val (.bool false),.val (.bool false),.val (.bool false),.val (.slice (some ⟨b1,o1,none⟩) l.length cap),.val (.int .i64 (k:Int)),.val (.pointer (some ⟨b1,o1+k*6,none⟩)),.val (.pointer (some ⟨b1,o1+k*6+3,none⟩)),.val (.agg #[.bool nb,.slice A' n' c',.slice B' m' d']),.val (.int .i64 sg),.val (.bool false),.val (.bool false),.val (.bool false),.val (.int .i64 (k:Int)),.val (.bool true),.val (.bool true),.val (.slice (some ⟨b1,o1,none⟩) l.length cap),.val (.int .i64 (k:Int)),.val (.pointer (some ⟨b1,o1+k*6,none⟩)),.val (.pointer (some ⟨b1,o1+k*6,none⟩)),.val (.agg #[.int .i64 e.1,.int .i64 e.2.1,.int .i64 e.2.2]),.val (.slice (some ⟨b1,o1,none⟩) l.length cap),.val (.int .i64 (k:Int)),.val (.int .i64 (k1:Int)),.val (.pointer (some ⟨b1,o1+k1*6,none⟩)),.val (.pointer (some ⟨b1,o1+k1*6,none⟩)),.val (.agg #[.int .i64 e1.1,.int .i64 e1.2.1,.int .i64 e1.2.2]),.val (.int .i64 V2),.val (.bool (decide (0<=V2))),.val (.bool (decide (0<=V2))),.val (.bool (decide (0<=V2)))] (by kernel_rfl) (by kernel_rfl) (by kernel_rfl) (by kernel_rfl) ?stepe 0 (by kernel_rfl) _ rfl ?fine
   case stepe=>
    intro i hi oi ho f wx hB hdep K hK;simp only [frontAct,zf1,zf2,zf3,zf4,zf5]at hK⊢;obtain⟨x0,x1,x2,x3,x4,x5⟩:=HAT.out.below hB HLT.out;obtain⟨z0,z1,z2,z3,z4,z5⟩:=HAP.out.below hB HLT.out;obtain rfl|rfl|rfl|rfl|rfl|rfl|rfl|rfl|rfl|rfl|rfl|rfl|rfl|rfl|rfl|rfl|rfl|rfl|rfl|rfl|rfl|rfl|rfl|rfl|rfl|rfl|rfl|rfl|rfl|rfl|rfl|rfl|rfl|rfl|rfl|rfl|rfl|rfl|rfl|rfl|rfl|rfl|rfl|rfl:=cs44 hi;all_goals
     obtain rfl:=Option.some.inj ho;simp only [Act.put,zf3,zf4,zf5]at hK
    rotate_left 5
    ·simp [gOf6,Sq.holds,Region.binds]at hdep
     simp only [hdep]at hK⊢;go_simp;refine(Qa9 e.1 e.2.1 e.2.2 wx true HKN).mono ?_;rintro e0 w' ⟨rfl,hb⟩;exact hK (.bool true) w' (gv6 rfl) hb (bt hB hb) (nb6 rfl rfl)
    rotate_left 7
    ·simp [gOf6,Sq.holds,Region.binds]at hdep
     simp only [hdep]at hK⊢;have hB0:=bt HBW.out hB;go_simp;refine(Qif nb A' B' n' c' m' d' ln ld wx true (HN1.out.below hB0) (HN2.out.below hB0) HSN.out.1 HSN.out.2 HVD).mono ?_;rintro e0 w' ⟨rfl,hb⟩;exact hK (.bool true) w' (gv6 rfl) hb (bt hB hb) (nb6 rfl rfl)
    rotate_left 8
    ·simp [gOf6,Sq.holds,Region.binds]at hdep
     simp only [hdep]at hK⊢;have hB0:=bt HBW.out hB;go_simp;refine(Qeb _ q sg wx (HIN.out.below hB0) HSG).mono ?_;rintro e0 w' ⟨rfl,hb⟩;exact hK (.int .i64 sg) w' (gv6 rfl) hb (bt hB hb) (nb6 rfl rfl)
    have hsz:=HSZ.out;rotate_left 4
    have hk0:=HK0.out;rotate_left 9
    have hw1:=HW1.out;have hw2:=HW2.out;rotate_left
    have hw2:=HW2.out;rotate_left 3
    ·simp [gOf6,Sq.holds,Region.binds]at hdep
     simp only [hdep]at hK⊢;go_simp;refine(Qes e.1 e.2.1 e.2.2 e1.1 e1.2.1 e1.2.2 wx V2 HV2).mono ?_;rintro e0 w' ⟨rfl,hb⟩;exact hK (.int .i64 V2) w' (gv6 rfl) hb (bt hB hb) (nb6 rfl rfl)
    rotate_left 3
    all_goals simp [gOf6,Sq.holds,Region.binds]at hdep
    all_goals try simp only [hdep]at hK⊢
    all_goals go_simp
    all_goals exact hK _ wx (gv6 rfl) (Below.refl _ _) hB (nb6 rfl rfl)
   case fine=>
    intro f wx hB hG hne;have e53:=dv6 (a:=f 53) (hG 43 (by decide)) rfl;clear hG hne;simp only [frontAct,zf1,zf2,zf3,zf4,zf5];generalize f 53=f53 at*
    subst e53;refine wpAny_done (by kernel_rfl) ?_ _;by_cases hv2:0<=V2
    ·have hdv:decide (0<=V2)=true:=decide_eq_true hv2
     rw [hdv];clear hdv;have HV3:=hid hv2;clear hv2;go_wp2_with fail
     go_ret;exact⟨Qal (Qln (HORD.out.1 HV3.out)),bt HBW.out hB⟩
    ·have hdv:decide (0<=V2)=false:=decide_eq_false hv2
     rw [hdv];clear hdv;have HV3:=hid hv2;clear hv2;go_wp2_with fail
     exact⟨⟨k+1,HK.out,congrArg (Value.int _) (by omega),bt HBW.out hB,HORD.out.2 HV3.out⟩,by simp [intOf];have:=HK.out;omega⟩
  ·obtain rfl:k=l.length:=by omega
   have hlt:¬(l.length:Int)<(l.length:Int):=(by omega);go_wp2_with fail
   go_ret;refine⟨Qal ?_,hB⟩;exact(HV.out.2 HO.out).symm
def MonV(m:Mon)(w:World)(a:Value):Prop:=∃nb A n c B k d,a=.agg #[.int .i64 (m.1.1:Int),.int .i64 (m.1.2.1:Int),.int .i64 (m.1.2.2:Int),.bool nb,.slice A n c,.slice B k d]/\RatQ w (.agg #[.bool nb,.slice A n c,.slice B k d]) m.2
def MonB(S:Nat)(m:Mon)(w:World)(a:Value):Prop:=∃g nb A n c B k d,a=.slice (some ⟨g,0,none⟩) 1 1/\S<=g/\Cs w g [.int .i64 (m.1.1:Int),.int .i64 (m.1.2.1:Int),.int .i64 (m.1.2.2:Int),.bool nb,.slice A n c,.slice B k d] MT/\RatQ w (.agg #[.bool nb,.slice A n c,.slice B k d]) m.2
theorem Inr.ratq{w:World}{v:Value}{q:Rat}(h:Inr w v q)(h0:q≠0):RatQ w v q:=by
 obtain⟨neg,A,n,c,A',m,c',ln,ld,rfl,h1,h2,_,_,h5⟩:=h;subst h5;by_cases hv:vld neg ln ld=true
 ·exact Qkt hv h1 h2
 ·exact absurd (by unfold fq;rw [if_neg hv]) h0
theorem Inr.sz{w:World}{v:Value}{q:Rat}(h:Inr w v q):Sz q 1000000:=by
 by_cases h0:q=0
 ·rw [h0];exact Qcm _ (by omega)
 ·obtain⟨A,n,c,A',m,c',e,h1,h2⟩:=h.ratq h0
  obtain⟨neg,A1,n1,c1,A2,m1,c2,ln,ld,e',g1,g2,g3,g4,g5⟩:=h;rw [e]at e';simp only [Value.agg.injEq,Array.mk.injEq,List.cons.injEq,and_true,Value.bool.injEq,Value.slice.injEq]at e';obtain⟨_,⟨_,rfl,_⟩,_,rfl,_⟩:=e';refine⟨by rw [<-h1.len];exact g3,?_⟩;have hl:=h2.len;unfold dl at hl;split at hl
  ·next h=>rw [h,Qax];show 1<=1000000;omega
  ·rw [<-hl];exact g4
theorem PRe.pol{w:World}{v:Value}{l:List RawM}(h:PRe w v l)(hv:vraw l):Pol w v (cleanL l):=by
 rw [Qcf hv];unfold Pol;rw [Qpu hv];obtain⟨⟨A,n,c,xs,e,h1,h2,h3⟩,_⟩:=h;refine⟨A,n,c,xs,e,h1,h2,fun i e q hi=>?_⟩;obtain⟨z0,z1,z2,hx,hr⟩:=h3 i e q hi;exact⟨z0,z1,z2,hx,hr.ratq (hv i (List.getElem?_eq_some_iff.1 hi).1 _ hi).2.1⟩
theorem PRe.szl{w:World}{v:Value}{l:List RawM}(h:PRe w v l):SzL (cleanL l) 1000000:=by
 classical
 by_cases hv:vraw l
 ·rw [Qcf hv]
  intro m hm;obtain⟨r,hr,rfl⟩:=List.mem_map.1 hm;obtain⟨i,hi,rfl⟩:=List.getElem_of_mem hr;obtain⟨⟨A,n,c,xs,e,h1,h2,h3⟩,_⟩:=h;obtain⟨z0,z1,z2,hx,hr⟩:=h3 i _ _ (List.getElem?_eq_getElem hi);exact hr.sz
 ·rw [Qcp hv];intro m hm;cases hm
def RetOwnP(w0:World)(l:List Mon)(e:Ending)(w':World):Prop:=∃v,e=.returned v/\OwnP w' w0.heap.size v l/\Below w0.heap.size w0 w'
theorem Qz4(v:Value)(l:List RawM)(w:World)(h:PRe w v l):Calls prog 75 #[v] w (RetOwnP w (cleanL l)):=by
 classical
 obtain⟨A,cap,rfl⟩:=PBy.slice h.1;by_cases hv:vraw l
 ·have hV:=Qqi _ l w h true (hid ⟨fun _=>hv,fun _=>rfl⟩)
  have HV:=hid hV;have hpol:=h.pol hv;have hszl:=h.szl;have hvp:=Qf1 l;have hlen:=h.2;have hll:(cleanL l).length=l.length:=by rw [Qcf hv,List.length_map]
  generalize cleanL l=p at*
  rw [<-hll];rw [<-hll]at HV hlen hpol;clear hV hv h hll;go_enter func75,ntmps75;go_wp2_with fail
  refine HV.out.mono ?_;rintro e w2 ⟨rfl,hb2⟩;have HP:=hid (hpol.below hb2);have HLEN:=hid hlen;have HSZL:=hid hszl;have HB2:=hid hb2;clear hpol hszl hlen hb2 hvp HV;go_wp2_with fail
  go_loopw [3,4] (fun r i wr=> ∃k,k<=p.length/\i=.int .i64 (k:Int)/\OwnP wr w2.heap.size r (p.take k)/\Below w2.heap.size w2 wr) (fun _ i _=>(p.length-intOf i).toNat)
  case atStart=>exact⟨0,zero_le _,rfl,OwnP.nil _ _,Below.refl _ _⟩
  case round=>
   obtain⟨k,hk,rfl,hrow,hbb⟩:=hrel;rcases lt_or_ge k p.length with hkn|hkn
   ·obtain⟨m,hm⟩:∃m,p[k]? =some m:=⟨p[k],List.getElem?_eq_getElem hkn⟩
    obtain⟨b,o,z0,z1,z2,rfl,hb,hat,hq⟩:=HP.out.at hm;have hltk:(k:Int)<(p.length:Int):=(by omega);have HK:=hid hkn;have HM:=hid hm;have HBB:=hid hbb.drew;have HAT:Hid (At6 wr.drew b (o+k*6) _ _ _ _ _ _):=hid (hat.below hbb.drew hb);have HLT:Hid (b<wr.drew.heap.size):=hid (lt_of_lt_of_le hb hbb.size);have HQ:=hid (hq.below hbb.drew);have HSZ:=hid (HSZL.out m (List.mem_of_getElem? hm));have HROW:=hid (hrow.below (Below.refl _ _).drew);clear hk hkn hm hat hb hq hrow hbb
    go_upto_region 7 with(fail)
    refine Qag 14 [14,15,16,17,18,19,20,21,22,23,24,25,26,27] [.val (u3),.val (.slice (some ⟨b,o,none⟩) p.length cap),.val (.int .i64 (k:Int)),.val (.pointer (some ⟨b,o+k*6,none⟩)),.val (.pointer (some ⟨b,o+k*6,none⟩)),.val (.agg #[.int .i64 (m.1.1:Int),.int .i64 (m.1.2.1:Int),.int .i64 (m.1.2.2:Int)]),.val (.slice (some ⟨b,o,none⟩) p.length cap),.val (.int .i64 (k:Int)),.val (.pointer (some ⟨b,o+k*6,none⟩)),.val (.pointer (some ⟨b,o+k*6+3,none⟩)),.val (.agg #[z0,z1,z2]),.st (fun w a=>RatQ w a m.2),.st (fun w a=>MonV m w a),.st (fun w a=>MonB wr.drew.heap.size m w a)] (by kernel_rfl) (by kernel_rfl) (by kernel_rfl) (by kernel_rfl) ?step 2 (by kernel_rfl) _ rfl ?fin
    case step=>
     intro i hi oi ho f wx hB hdep K hK;simp only [frontAct,zf1,zf2,zf3,zf4,zf5]at hK⊢;obtain⟨x0,x1,x2,x3,x4,x5⟩:=HAT.out.below hB HLT.out;obtain rfl|rfl|rfl|rfl|rfl|rfl|rfl|rfl|rfl|rfl|rfl|rfl|rfl|rfl:=cs14 hi;all_goals
      obtain rfl:=Option.some.inj ho;simp only [Act.put,zf3,zf4,zf5]at hK
     rotate_left 11
     ·simp [gOf6,Sq.holds,Region.binds]at hdep
      simp only [hdep]at hK⊢;go_simp;refine(Qig _ m.2 wx ((HQ.out.below hB).inr HSZ.out (le_refl _))).mono ?_;rintro e0 w' ⟨val,rfl,hr,hb⟩;exact hK val w' (gs6 rfl (fun w2 h2=>hr.below h2)) hb (bt hB hb) (nb6 rfl rfl)
     ·have e19:=dv6 (hdep ⟨5,.data⟩ (by simp) rfl) rfl
      have e25:=ds6 (hdep ⟨11,.data⟩ (by simp) rfl) rfl;simp only [zf6,zf7]at e19 e25;generalize f 19=f19 at*;subst e19;replace e25:=(show RatQ wx (f 25) m.2 from e25);generalize f 25=f25 at*
      obtain⟨yb,yA,yn,yc,yB,ym,yd,rfl⟩:=e25.agg;go_simp;exact hK _ wx (gs6 rfl (fun w2 h2=>⟨_,_,_,_,_,_,_,rfl,RatQ.below e25 h2⟩)) (Below.refl _ _) hB (nb6 rfl rfl)
     ·have e26:=ds6 (hdep ⟨12,.data⟩ (by simp) rfl) rfl
      replace e26:=(show MonV m wx (f 26)from e26);generalize f 26=f26 at*
      obtain⟨yb,yA,yn,yc,yB,ym,yd,rfl,hyq⟩:=e26;have hbl:=new6 wx (.int .i64 (m.1.1:Int)) (.int .i64 (m.1.2.1:Int)) (.int .i64 (m.1.2.2:Int)) (.bool yb) (.slice yA yn yc) (.slice yB ym yd);go_simp;exact hK _ _ (gs6 rfl (fun w2 h2=>⟨_,_,_,_,_,_,_,_,rfl,hB.size,hbl.2.below h2 hbl.2.lt,(hyq.below hbl.1).below h2⟩)) hbl.1 (bt hB hbl.1) (nb6 rfl rfl)
     all_goals simp [gOf6,Sq.holds,Region.binds]at hdep
     all_goals try simp only [hdep]at hK⊢
     all_goals go_simp
     all_goals exact hK _ wx (gv6 rfl) (Below.refl _ _) hB (nb6 rfl rfl)
    case fin=>
     intro f wx hB hG hne;have e14:=dv6 (hG 0 (by decide)) rfl;have e27:MonB wr.drew.heap.size m wx (f 27):=ds6 (hG 13 (by decide)) rfl;clear hG hne;simp only [frontAct,zf1,zf2,zf3,zf4,zf5];simp only [List.getD_cons_zero]at e14;generalize f 14=f14 at*;subst e14;generalize f 27=f27 at*
     obtain⟨g,yb,yA,yn,yc,yB,ym,yd,rfl,hgl,cs,hyq⟩:=e27;have hrw:=HROW.out.below hB;have hz8:=HBB.out.size;obtain⟨p5,w5,HRUN,hown5,hg5,_⟩:=hrw.app1 cs hyq (by rw [List.length_take];have:=HLEN.out;omega) (le_trans hz8 hB.size);have HEND:=hid (And.intro hown5 (hrw.grown (bt HBB.out hB) (le_trans hz8 hB.size) hg5));clear hown5 hg5 hrw cs hyq hB;refine wpAny_ready (rs:=[14]) (by kernel_rfl) (by simp) ?_;refine AllReady.cons rfl (fun K hK=>?_) AllReady.nil;refine Qbg rfl (.tmp 14) (.tmp 27) rfl rfl _ _ _ _ rfl rfl HRUN (hK _ _ ?_);clear hK K;refine wpAny_ready (rs:=[15]) (by kernel_rfl) (by simp) ?_;refine AllReady.cons rfl (fun K hK=>?_) AllReady.nil;have HQ:=hid hK;clear hK;go_simp;refine HQ.out _ _ ?_;clear HQ K;refine wpAny_done (by kernel_rfl) ?_ _;have hk1:=HK.out;have hl1:=HLEN.out;go_wp2_with fail
     refine⟨⟨k+1,HK.out,congrArg (Value.int _) (by omega),?_,HEND.out.2⟩,by simp [intOf];have:=HK.out;omega⟩;rw [List.take_succ_eq_append_getElem HK.out,(List.getElem?_eq_some_iff.1 HM.out).2];exact HEND.out.1
   ·obtain rfl:k=p.length:=by omega
    rw [List.take_length]at hrow;have hlt:¬(p.length:Int)<(p.length:Int):=(by omega);have HEND:=hid (And.intro hrow (bt HB2.out hbb));have HZ:=hid HB2.out.size;clear hrow hbb;go_wp2_with fail
    go_ret;exact⟨_,rfl,HEND.out.1.more HZ.out,HEND.out.2⟩
 ·have hV:=Qqi _ l w h false (hid ⟨(fun h=>by cases h),fun h=>absurd h hv⟩)
  have HV:=hid hV;have HN:=hid (Qcp hv);rw [HN.out];clear hV hv h;go_enter func75,ntmps75;go_wp2_with fail
  refine HV.out.mono ?_;rintro e w2 ⟨rfl,hb2⟩;clear HV;go_wp2_with fail
  go_ret;exact⟨_,rfl,OwnP.nil _ _,hb2⟩
theorem Qqj{m e:Ex}(h:elt e m=true):lexI ((m.1:Int),(m.2.1:Int),(m.2.2:Int)) ((e.1:Int),(e.2.1:Int),(e.2.2:Int))=1:=by
 rw [Qdm]at h;unfold lexI;simp only;split
 ·omega
 ·split
  ·rfl
  ·split
   ·omega
   ·split
    ·rfl
    ·split
     ·omega
     ·split
      ·rfl
      ·omega
theorem Qxb{m e:Ex}(h:elt m e=true):lexI ((m.1:Int),(m.2.1:Int),(m.2.2:Int)) ((e.1:Int),(e.2.1:Int),(e.2.2:Int))= -1:=by
 rw [Qni,Qqj h]
theorem Qu6(e:Ex):lexI ((e.1:Int),(e.2.1:Int),(e.2.2:Int)) ((e.1:Int),(e.2.1:Int),(e.2.2:Int))=0:=by
 unfold lexI;simp
theorem Qo1(v:Value)(l:List Mon)(e:Ex)(q:Rat)(nb:Bool)(A B:Option Addr)(n c m k:Nat)(w:World)(h:Pol w v l)(hv:VP l)(hn0:0<l.length)(hs:SzL l 200000)(hq:RatQ w (.agg #[.bool nb,.slice A n c,.slice B m k]) q)(hS:Sz q 200000)(hd:deg e<=5)(h0:q≠0):
 Calls prog 73 #[v,.agg #[.int .i64 (e.1:Int),.int .i64 (e.2.1:Int),.int .i64 (e.2.2:Int),.bool nb,.slice A n c,.slice B m k]] w (RetPol w (listOf (addAt (co l) e q))):=by
 obtain⟨A1,c1,rfl⟩:=h.slice;have hlen:=Qbf hv;obtain⟨K,hK⟩:∃K,place l e=K:=⟨_,rfl⟩;have HKL:Hid (K<=l.length):=hid (by rw [<-hK];exact Qw9 l e);have HBEF:Hid (∀j m,j<K->l[j]? =some m->elt e m.1=true):=hid (fun j m hj hm=>Qg3 (by rw [hK];exact hj) hm);have HAFT:Hid (∀m,l[K]? =some m->elt e m.1=false):=hid (fun m hm=>Qqh (by rw [hK];exact hm));have HNEW:Hid ((∀x,l[K]? =some x->x.1≠e)->l.take K++([(e,q)]++l.drop K)=listOf (addAt (co l) e q)):=hid (fun hh=>by rw [<-hK]at hh⊢;exact Qnh hv hd h0 hh);have HOVER:Hid (∀y,l[K]? =some (e,y)->l.take K++((if q+y=0 then []else [(e,q+y)])++l.drop (K+1))=listOf (addAt (co l) e q)):=hid (fun y hh=>by rw [<-hK]at hh⊢;exact Qxa hv hh);clear hK;obtain⟨hb6,d6⟩:=new6 w (.int .i64 (e.1:Int)) (.int .i64 (e.2.1:Int)) (.int .i64 (e.2.2:Int)) (.bool nb) (.slice A n c) (.slice B m k);have HP:=hid h;have HQ0:=hid hq;have HLEN:=hid hlen;have HL0:=hid hn0;have HSL:=hid hs;have HSQ:=hid hS;have hkn:Hid (knownI ((e.1:Int),(e.2.1:Int),(e.2.2:Int))=true):=hid (by rw [Qb3];exact decide_eq_true hd);have HNZ:=hid h0;have y:=d6.c6;clear h hq hlen hn0 hs hS hd h0 hv;go_enter func73,ntmps73;go_wp2_with fail
 generalize (w.alloc (M6 (.int .i64 (e.1:Int)) (.int .i64 (e.2.1:Int)) (.int .i64 (e.2.2:Int)) (.bool nb) (.slice A n c) (.slice B m k)))=W at*
 refine(Qa9 _ _ _ _ _ hkn).mono ?_;rintro e2 w2 ⟨rfl,hb2⟩;replace hb6:=bt hb6 hb2;replace d6:=d6.below hb2 d6.lt;replace y:=d6.c6;clear hb2 hkn;obtain⟨sg,hsg⟩:∃sg,q.num.sign=sg:=⟨_,rfl⟩;have HSG:=hid hsg;have hs0:(sg==0)=false:=by rw [<-hsg,Qcj];exact decide_eq_false HNZ.out
 have HS0:=hid hs0;clear hs0 hsg;go_wp2_with fail
 refine(Qeb _ q sg _ ((HQ0.out.below hb6).inr HSQ.out (by omega)) HSG).mono ?_;rintro e3 w3 ⟨rfl,hb3⟩;replace hb6:=bt hb6 hb3;replace d6:=d6.below hb3 d6.lt;clear hb3 y;have HB3:=hid hb6;have HD3:=hid d6;clear hb6 d6;have hs0:=HS0.out;go_wp2_with fail
 clear hs0
 go_loopw [5] (fun i wr=> ∃j,j<=K/\i=.int .i64 (j:Int)/\Below w3.heap.size w3 wr) (fun i _=>(K-intOf i).toNat)
 case atStart=>exact⟨0,zero_le _,rfl,Below.refl _ _⟩
 case round=>
  obtain⟨j,hj,rfl,hbr⟩:=hrel;obtain⟨b,o,rfl,hb0,_⟩:∃b o,A1=some ⟨b,o,none⟩/\b<w.heap.size/\True:=by
   obtain⟨m0,hm0⟩:∃m,l[0]? =some m:=⟨_,List.getElem?_eq_getElem HL0.out⟩;obtain⟨b,o,_,_,_,h1,h2,_⟩:=HP.out.at hm0;exact⟨b,o,h1,h2,trivial⟩
  have HBLT:=hid hb0;have HBR:=hid hbr;have HBW:=hid (bt HB3.out hbr.drew);have HD6:=hid (HD3.out.below hbr.drew HD3.out.lt);have HLT:Hid (b<wr.drew.heap.size):=hid (lt_of_lt_of_le hb0 HBW.out.size);clear hbr hb0;by_cases hjK:j<K
  ·obtain⟨⟨f,y⟩,hx⟩:∃m,l[j]? =some m:=⟨_,List.getElem?_eq_getElem (by have:=HKL.out;omega)⟩
   obtain⟨b',o',z0,z1,z2,hA,hb',hat,_⟩:=HP.out.at hx;cases hA;have HAT:Hid (At6 wr.drew b (o+j*6) _ _ _ _ _ _):=hid (hat.keep (HBW.out.block b hb'));have HV:Hid (lexI ((f.1:Int),(f.2.1:Int),(f.2.2:Int)) ((e.1:Int),(e.2.1:Int),(e.2.2:Int))=1):=hid (Qqj (HBEF.out j _ hjK hx));have hjl:j<l.length:=(by have:=HKL.out;omega);have hlt:decide (j<l.length)=true:=decide_eq_true hjl;have hlt2:(j:Int)<(l.length:Int):=(by omega);have HJ:=hid hjK;clear hj hjK hx hb' hat hjl
   go_upto_region 4 with(fail)
   refine Qag 15 [18,19,20,21,22,23,24,25,26,27,28,29,30,31,32] [.val (.int .i64 (j:Int)),.val (.slice (some ⟨b,o,none⟩) l.length c1),.val (.int .i64 (l.length:Int)),.val (.bool true),.val (.bool true),.val (.slice (some ⟨b,o,none⟩) l.length c1),.val (.int .i64 (j:Int)),.val (.pointer (some ⟨b,o+j*6,none⟩)),.val (.pointer (some ⟨b,o+j*6,none⟩)),.val (.agg #[.int .i64 (f.1:Int),.int .i64 (f.2.1:Int),.int .i64 (f.2.2:Int)]),.val (.pointer (some ⟨w.heap.size,0,none⟩)),.val (.agg #[.int .i64 (e.1:Int),.int .i64 (e.2.1:Int),.int .i64 (e.2.2:Int)]),.val (.int .i64 (1)),.val (.bool true),.val (.bool true)] (by kernel_rfl) (by kernel_rfl) (by kernel_rfl) (by kernel_rfl) ?stepa 0 (by kernel_rfl) _ rfl ?fina
   case stepa=>
    intro i hi oi ho f' wx hB hdep K hK;simp only [frontAct,zf1,zf2,zf3,zf4,zf5]at hK⊢;obtain⟨x0,x1,x2,x3,x4,x5⟩:=HAT.out.below hB HLT.out;obtain⟨y0,y1,y2,y3,y4,y5⟩:=(HD6.out.below hB HD6.out.lt).c6;obtain rfl|rfl|rfl|rfl|rfl|rfl|rfl|rfl|rfl|rfl|rfl|rfl|rfl|rfl|rfl:=cs15 hi;all_goals
     obtain rfl:=Option.some.inj ho;simp only [Act.put,zf3,zf4,zf5]at hK
    rotate_left 12
    ·simp [gOf6,Sq.holds,Region.binds]at hdep
     simp only [hdep]at hK⊢;go_simp;refine(Qes (f.1:Int) (f.2.1:Int) (f.2.2:Int) (e.1:Int) (e.2.1:Int) (e.2.2:Int) wx (1) HV).mono ?_;rintro e0 w' ⟨rfl,hb⟩;exact hK (.int .i64 (1)) w' (gv6 rfl) hb (bt hB hb) (nb6 rfl rfl)
    rotate_left 2
    all_goals simp [gOf6,Sq.holds,Region.binds]at hdep
    all_goals try simp only [hdep]at hK⊢
    all_goals go_simp
    all_goals exact hK _ wx (gv6 rfl) (Below.refl _ _) hB (nb6 rfl rfl)
   case fina=>
    intro f' wx hB hG hne;have e32:=dv6 (a:=f' 32) (hG 14 (by decide)) rfl;clear hG hne;simp only [frontAct,zf1,zf2,zf3,zf4,zf5];generalize f' 32=z32 at*;subst e32;refine wpAny_done (by kernel_rfl) ?_ _;have hj9:=HJ.out;have hl9:=HKL.out;have hl8:=HLEN.out;go_wp2_with fail
    exact⟨⟨j+1,HJ.out,congrArg (Value.int _) (by omega),HBR.out.drew.trans (hB.mono HBR.out.size)⟩,by simp [intOf];have:=HJ.out;have:=HKL.out;omega⟩
  obtain rfl:j=K:=by omega
  clear hjK hj;rcases lt_or_ge j l.length with hjl|hjl
  ·obtain⟨⟨f,y⟩,hx⟩:∃m,l[j]? =some m:=⟨_,List.getElem?_eq_getElem hjl⟩
   obtain⟨b',o',z0,z1,z2,hA,hb',hat,hqy⟩:=HP.out.at hx;cases hA;have HAT0:=hid hat
   have HQY:=hid hqy;have HAT:Hid (At6 wr.drew b (o+j*6) _ _ _ _ _ _):=hid (hat.keep (HBW.out.block b hb'));have hlt:decide (j<l.length)=true:=decide_eq_true hjl;have hlt2:(j:Int)<(l.length:Int):=(by omega);have hne0:((j:Int)==(l.length:Int))=false:=(by simp;omega);have hltK:=hid hjl;have HX:=hid hx;have haft:=HAFT.out _ hx;by_cases hfe:f=e
   ·subst hfe
    have HV:Hid (lexI ((f.1:Int),(f.2.1:Int),(f.2.2:Int)) ((f.1:Int),(f.2.1:Int),(f.2.2:Int))=0):=hid (Qu6 f);have HSY:=hid (HSL.out _ (List.mem_of_getElem? hx));clear hx hb' hat hqy haft hjl
    go_upto_region 4 with(fail)
    refine Qag 15 [18,19,20,21,22,23,24,25,26,27,28,29,30,31,32] [.val (.int .i64 (j:Int)),.val (.slice (some ⟨b,o,none⟩) l.length c1),.val (.int .i64 (l.length:Int)),.val (.bool true),.val (.bool true),.val (.slice (some ⟨b,o,none⟩) l.length c1),.val (.int .i64 (j:Int)),.val (.pointer (some ⟨b,o+j*6,none⟩)),.val (.pointer (some ⟨b,o+j*6,none⟩)),.val (.agg #[.int .i64 (f.1:Int),.int .i64 (f.2.1:Int),.int .i64 (f.2.2:Int)]),.val (.pointer (some ⟨w.heap.size,0,none⟩)),.val (.agg #[.int .i64 (f.1:Int),.int .i64 (f.2.1:Int),.int .i64 (f.2.2:Int)]),.val (.int .i64 (0)),.val (.bool false),.val (.bool false)] (by kernel_rfl) (by kernel_rfl) (by kernel_rfl) (by kernel_rfl) ?stepxs 0 (by kernel_rfl) _ rfl ?finxs
    case stepxs=>
     intro i hi oi ho f' wx hB hdep K hK;simp only [frontAct,zf1,zf2,zf3,zf4,zf5]at hK⊢;obtain⟨x0,x1,x2,x3,x4,x5⟩:=HAT.out.below hB HLT.out;obtain⟨y0,y1,y2,y3,y4,y5⟩:=(HD6.out.below hB HD6.out.lt).c6;obtain rfl|rfl|rfl|rfl|rfl|rfl|rfl|rfl|rfl|rfl|rfl|rfl|rfl|rfl|rfl:=cs15 hi;all_goals
      obtain rfl:=Option.some.inj ho;simp only [Act.put,zf3,zf4,zf5]at hK
     rotate_left 12
     ·simp [gOf6,Sq.holds,Region.binds]at hdep
      simp only [hdep]at hK⊢;go_simp;refine(Qes (f.1:Int) (f.2.1:Int) (f.2.2:Int) (f.1:Int) (f.2.1:Int) (f.2.2:Int) wx (0) HV).mono ?_;rintro e0 w' ⟨rfl,hb⟩;exact hK (.int .i64 (0)) w' (gv6 rfl) hb (bt hB hb) (nb6 rfl rfl)
     rotate_left 2
     all_goals simp [gOf6,Sq.holds,Region.binds]at hdep
     all_goals try simp only [hdep]at hK⊢
     all_goals go_simp
     all_goals exact hK _ wx (gv6 rfl) (Below.refl _ _) hB (nb6 rfl rfl)
    case finxs=>
     intro f' wx hB hG hne;have e32:=dv6 (a:=f' 32) (hG 14 (by decide)) rfl;clear hG hne;simp only [frontAct,zf1,zf2,zf3,zf4,zf5];generalize f' 32=z32 at*;subst e32;have hBx:=bt HBW.out hB;have D6:=HD6.out.below hB HD6.out.lt;refine wpAny_done (by kernel_rfl) ?_ _;obtain⟨ys,hrd,hcs⟩:=(HP.out.below hBx).cells6;obtain⟨v1,w1,HRUN1,hown1,hg1,_⟩:=(OwnP.nil wx (w.heap.size+1)).app (hrd.take (m:=j) HKL.out) (hcs.take j) (by have:=HLEN.out;have:=HKL.out;simp;omega) D6.lt;have hb1:Below w.heap.size w w1:=hBx.grown hg1 hBx.size (fun j e=>by cases e);have D61:=D6.grw hg1 (fun e=>by cases e);rw [List.nil_append]at hown1;have HB1:=hid hb1;have HO1:=hid hown1;have HD1:=hid D61;have HKC:Hid (j<=c1/\0<c1/\l.length<=c1):=hid ⟨le_trans HKL.out hrd.cap,by have:=hrd.cap;have:=HL0.out;omega,hrd.cap⟩;clear hrd hcs hown1 hg1 hb1 D61 D6 hBx hB;have hkc:=HKC.out.1;have hkc0:=HKC.out.2.1
     go_upto_region 7 with(at_builtin;refine Qa6 rfl (.const (.slice none 0 0)) (.tmp 37) rfl rfl _ _ _ _ rfl rfl HRUN1 ?_)
     clear hkc hkc0;have HBW:=hid HB1.out.drew;have HD6:=hid HD1.out.drew;have HO2:=hid (HO1.out.below (Below.refl _ _).drew);have HAT:Hid (At6 w1.drew b (o+j*6) _ _ _ _ _ _):=hid (HAT0.out.keep (HBW.out.block b HBLT.out));have HLT:Hid (b<w1.drew.heap.size):=hid (lt_of_lt_of_le HBLT.out HBW.out.size);refine Qag 15 [39,40,41,42,43,44,45,46,47,48,49,50,51,52,53] [.val (.int .i64 (j:Int)),.val (.slice (some ⟨b,o,none⟩) l.length c1),.val (.int .i64 (l.length:Int)),.val (.bool false),.val (.bool false),.val (.slice (some ⟨b,o,none⟩) l.length c1),.val (.int .i64 (j:Int)),.val (.pointer (some ⟨b,o+j*6,none⟩)),.val (.pointer (some ⟨b,o+j*6,none⟩)),.val (.agg #[.int .i64 (f.1:Int),.int .i64 (f.2.1:Int),.int .i64 (f.2.2:Int)]),.val (.pointer (some ⟨w.heap.size,0,none⟩)),.val (.agg #[.int .i64 (f.1:Int),.int .i64 (f.2.1:Int),.int .i64 (f.2.2:Int)]),.val (.int .i64 (0)),.val (.bool false),.val (.bool false)] (by kernel_rfl) (by kernel_rfl) (by kernel_rfl) (by kernel_rfl) ?steprs 0 (by kernel_rfl) _ rfl ?finrs
     case steprs=>
      intro i hi oi ho f' wx hB hdep K hK;simp only [frontAct,zf1,zf2,zf3,zf4,zf5]at hK⊢;obtain⟨x0,x1,x2,x3,x4,x5⟩:=HAT.out.below hB HLT.out;obtain⟨y0,y1,y2,y3,y4,y5⟩:=(HD6.out.below hB HD6.out.lt).c6;obtain rfl|rfl|rfl|rfl|rfl|rfl|rfl|rfl|rfl|rfl|rfl|rfl|rfl|rfl|rfl:=cs15 hi;all_goals
       obtain rfl:=Option.some.inj ho;simp only [Act.put,zf3,zf4,zf5]at hK
      rotate_left 12
      ·simp [gOf6,Sq.holds,Region.binds]at hdep
       simp only [hdep]at hK⊢;go_simp;refine(Qes (f.1:Int) (f.2.1:Int) (f.2.2:Int) (f.1:Int) (f.2.1:Int) (f.2.2:Int) wx (0) HV).mono ?_;rintro e0 w' ⟨rfl,hb⟩;exact hK (.int .i64 (0)) w' (gv6 rfl) hb (bt hB hb) (nb6 rfl rfl)
      rotate_left 2
      all_goals simp [gOf6,Sq.holds,Region.binds]at hdep
      all_goals try simp only [hdep]at hK⊢
      all_goals go_simp
      all_goals exact hK _ wx (gv6 rfl) (Below.refl _ _) hB (nb6 rfl rfl)
     case finrs=>
      intro f' wx hB hG hne;have e53:=dv6 (a:=f' 53) (hG 14 (by decide)) rfl;clear hG hne;simp only [frontAct,zf1,zf2,zf3,zf4,zf5];generalize f' 53=z53 at*;subst e53;have hBy:=bt HBW.out hB;have D6y:=HD6.out.below hB HD6.out.lt;have hO:=HO2.out.below hB;replace HBW:=hid hBy.drew;replace HD6:=hid D6y.drew;replace HO2:=hid (hO.below (Below.refl _ _).drew);replace HAT:Hid (At6 wx.drew b (o+j*6) _ _ _ _ _ _):=hid (HAT0.out.keep (HBW.out.block b HBLT.out));replace HLT:Hid (b<wx.drew.heap.size):=hid (lt_of_lt_of_le HBLT.out HBW.out.size);have HQA:=hid (HQ0.out.below HBW.out);have HQB:=hid (HQY.out.below HBW.out);clear hBy D6y hO hB;refine wpAny_done (by kernel_rfl) ?_ _
      go_upto_region 9 with(fail)
      refine Qag 9 [62,63,64,65,66,67,68,69,70] [.val (.pointer (some ⟨w.heap.size,3,none⟩)),.val (.agg #[.bool nb,.slice A n c,.slice B m k]),.val (.slice (some ⟨b,o,none⟩) l.length c1),.val (.int .i64 (j:Int)),.val (.pointer (some ⟨b,o+j*6,none⟩)),.val (.pointer (some ⟨b,o+j*6+3,none⟩)),.val (.agg #[z0,z1,z2]),.st (fun w a=>RatQ w a (q+y)),.val (.pointer (some ⟨w.heap.size,3,none⟩))] (by kernel_rfl) (by kernel_rfl) (by kernel_rfl) (by kernel_rfl) ?stept 1 (by kernel_rfl) _ rfl ?fint
      case stept=>
       intro i hi oi ho f' wx hB hdep K hK;simp only [frontAct,zf1,zf2,zf3,zf4,zf5]at hK⊢;obtain⟨x0,x1,x2,x3,x4,x5⟩:=HAT.out.below hB HLT.out;obtain⟨y0,y1,y2,y3,y4,y5⟩:=(HD6.out.below hB HD6.out.lt).c6;obtain rfl|rfl|rfl|rfl|rfl|rfl|rfl|rfl|rfl:=cs9 hi;all_goals
        obtain rfl:=Option.some.inj ho;simp only [Act.put,zf3,zf4,zf5]at hK
       rotate_left 7
       ·simp [gOf6,Sq.holds,Region.binds]at hdep
        simp only [hdep]at hK⊢;go_simp;refine(r_Add _ _ q y wx ((HQA.out.below hB).inr HSQ.out (by omega)) ((HQB.out.below hB).inr HSY.out (by omega)) (HSQ.out.mono (by omega)) (HSY.out.mono (by omega))).mono ?_;rintro e0 w' ⟨val,rfl,hr,hb⟩;exact hK val w' (gs6 rfl (fun w2 h2=>hr.below h2)) hb (bt hB hb) (nb6 rfl rfl)
       rotate_left
       all_goals simp [gOf6,Sq.holds,Region.binds]at hdep
       all_goals try simp only [hdep]at hK⊢
       all_goals go_simp
       all_goals exact hK _ wx (gv6 rfl) (Below.refl _ _) hB (nb6 rfl rfl)
      case fint=>
       intro f' wx hB hG hne;have e69:RatQ wx (f' 69) (q+y):=ds6 (hG 7 (by decide)) rfl;have e70:=dv6 (a:=f' 70) (hG 8 (by decide)) rfl;clear hG hne;simp only [frontAct,zf1,zf2,zf3,zf4,zf5];generalize f' 69=f69 at*
       generalize f' 70=f70 at*;subst e70;obtain⟨sb,sA,sn,sc,sB,sm,sd,rfl⟩:=e69.agg;have D9:=HD6.out.below hB HD6.out.lt;have hB9:=bt HBW.out hB;have hO9:=HO2.out.below hB;have hno:∀v∈[Value.int .i64 (f.1:Int),.int .i64 (f.2.1:Int),.int .i64 (f.2.2:Int),.bool nb,.slice A n c,.slice B m k],∀x:Nat,v≠ .int .u32 (x:Int):=(by simp);have hgn:∀g,v1.ownBlock=some g->g≠w.heap.size:=fun g hg=>by have:=(hO9.lt g hg).1;omega
       obtain⟨y0,y1,y2,y3,y4,y5⟩:=D9.c6;have f3:=D9.frozen 3;have f4:=D9.frozen 4;have f5:=D9.frozen 5;have HCS10:Hid (Cs (((wx.setCell ⟨w.heap.size,3,none⟩ (.bool sb)).setCell ⟨w.heap.size,4,none⟩ (.slice sA sn sc)).setCell ⟨w.heap.size,5,none⟩ (.slice sB sm sd)) w.heap.size [.int .i64 (f.1:Int),.int .i64 (f.2.1:Int),.int .i64 (f.2.2:Int),.bool sb,.slice sA sn sc,.slice sB sm sd] MT):=hid (Cs.setL' [.bool sb,.slice sA sn sc,.slice sB sm sd] 3 wx _ D9 rfl);have HO10:Hid (OwnP (((wx.setCell ⟨w.heap.size,3,none⟩ (.bool sb)).setCell ⟨w.heap.size,4,none⟩ (.slice sA sn sc)).setCell ⟨w.heap.size,5,none⟩ (.slice sB sm sd)) (w.heap.size+1) v1 (l.take j)):=hid (hO9.turn (fun g hg=>Qi0 (hgn g hg) [.bool sb,.slice sA sn sc,.slice sB sm sd] 3 wx) (fun z q' hq'=>hq'.setL (k:=3) D9 hno [.bool sb,.slice sA sn sc,.slice sB sm sd]));have HQ10:Hid (RatQ (((wx.setCell ⟨w.heap.size,3,none⟩ (.bool sb)).setCell ⟨w.heap.size,4,none⟩ (.slice sA sn sc)).setCell ⟨w.heap.size,5,none⟩ (.slice sB sm sd)) (.agg #[.bool sb,.slice sA sn sc,.slice sB sm sd]) (q+y)):=hid (e69.setL (k:=3) D9 hno [.bool sb,.slice sA sn sc,.slice sB sm sd]);have HB10:Hid (Below w.heap.size w (((wx.setCell ⟨w.heap.size,3,none⟩ (.bool sb)).setCell ⟨w.heap.size,4,none⟩ (.slice sA sn sc)).setCell ⟨w.heap.size,5,none⟩ (.slice sB sm sd))):=hid (Qbu (le_refl _) [.bool sb,.slice sA sn sc,.slice sB sm sd] 3 hB9);clear e69 hB9 hO9 D9 hno hgn hB;refine wpAny_ready (rs:=[9]) (by kernel_rfl) (by simp) ?_;refine AllReady.cons rfl (fun K hK=>?_) AllReady.nil;have HQ:=hid hK;clear hK;go_simp;refine HQ.out _ _ ?_;clear HQ K;refine wpAny_done (by kernel_rfl) ?_ _;generalize (((wx.setCell ⟨w.heap.size,3,none⟩ (.bool sb)).setCell ⟨w.heap.size,4,none⟩ (.slice sA sn sc)).setCell ⟨w.heap.size,5,none⟩ (.slice sB sm sd))=w10 at*
       clear y0 y1 y2 y3 y4 y5 f3 f4 f5;obtain⟨y0,y1,y2,y3,y4,y5⟩:=HCS10.out.c6;obtain⟨s2,hs2⟩:∃s,(q+y).num.sign=s:=⟨_,rfl⟩;have HS2:=hid hs2;clear hs2;have hk1s:(j:Int)+1<=57:=(by have:=hltK.out;have:=HLEN.out;omega);go_wp2_with fail
       refine(Qeb _ (q+y) s2 w10 (HQ10.out.inr (Qmg HSQ.out HSY.out (le_refl _)) (by omega)) HS2).mono ?_;rintro e11 w11 ⟨rfl,hb11⟩;clear y0 y1 y2 y3 y4 y5;have HD11:=hid (HCS10.out.below hb11 HCS10.out.lt);have HO11:=hid (HO10.out.below hb11);have HQ11:=hid (HQ10.out.below hb11);have HB11:=hid (bt HB10.out hb11);clear hb11 HCS10 HO10 HQ10 HB10;obtain⟨y0,y1,y2,y3,y4,y5⟩:=HD11.out.c6;by_cases hqy0:q+y=0
       ·have hz:(s2 !=0)=false:=by rw [<-HS2.out,Qlb,hqy0];rfl
        have HPUT:Hid (l.take j++([]++l.drop (j+1))=listOf (addAt (co l) f q)):=hid (by have:=HOVER.out y HX.out;rwa [if_pos hqy0]at this);clear hqy0;have HBZ:=HB11;have HOZ:=HO11;have HZZ:Hid (w.heap.size+1<=w11.heap.size):=hid HD11.out.lt;have hk1l:j+1<=l.length:=hltK.out;have hl57:=HLEN.out;have hck:=HKC.out.2.2;by_cases hc9:c1=j+1
        ·have hle:l.length<=j+1:=by omega
         obtain⟨ys9,hrd9,hcs9⟩:=(HP.out.below HBZ.out).cells6;obtain⟨v3,w3',HRUN3,hown3,hg3,_⟩:=HOZ.out.app (show RdK w11 6 [] (some ⟨b,o,none⟩) (l.length-(j+1)) 0 from by rw [Nat.sub_eq_zero_of_le hle];exact RdK.nil _ _ _ _) (Cells6.nil _) (by simp only [List.length_append,List.length_take,List.length_cons,List.length_nil];omega) HZZ.out;have hB10:=HBZ.out.grown hg3 HBZ.out.size (fun j e=>Nat.le_of_succ_le (HOZ.out.lt j e).1);have hlist:l.take j++[]=listOf (addAt (co l) f q):=(by rw [<-HPUT.out];simp [List.drop_eq_nil_of_le hle]);have HEND:Hid (RetPol w (listOf (addAt (co l) f q)) (.returned v3) w3'):=hid ⟨v3,rfl,hlist▸hown3.pol,hB10⟩;clear hrd9 hcs9 hown3 hg3 hB10 hlist hle;go_wp2_with (at_builtin;refine Qa6 rfl (.tmp 79) (.tmp 83) rfl rfl _ _ _ _ rfl rfl HRUN3 ?_)
         go_ret;exact HEND.out
        ·obtain⟨ys9,hrd9,hcs9⟩:=(HP.out.below HBZ.out).cells6
         obtain⟨v3,w3',HRUN3,hown3,hg3,_⟩:=HOZ.out.app (hrd9.drop (j:=j+1) hk1l) (hcs9.drop (j+1)) (by simp only [List.length_append,List.length_take,List.length_cons,List.length_nil];omega) HZZ.out;have hB10:=HBZ.out.grown hg3 HBZ.out.size (fun j e=>Nat.le_of_succ_le (HOZ.out.lt j e).1);have hlist:l.take j++l.drop (j+1)=listOf (addAt (co l) f q):=(by rw [<-HPUT.out];simp);have HEND:Hid (RetPol w (listOf (addAt (co l) f q)) (.returned v3) w3'):=hid ⟨v3,rfl,hlist▸hown3.pol,hB10⟩;clear hrd9 hcs9 hown3 hg3 hB10 hlist;go_wp2_with (at_builtin;refine Qa6 rfl (.tmp 79) (.tmp 83) rfl rfl _ _ _ _ rfl rfl HRUN3 ?_)
         go_ret;exact HEND.out
       ·have hz:(s2 !=0)=true:=by rw [<-HS2.out,Qlb];exact decide_eq_true hqy0
        have HPUT:Hid (l.take j++([(f,q+y)]++l.drop (j+1))=listOf (addAt (co l) f q)):=hid (by have:=HOVER.out y HX.out;rwa [if_neg hqy0]at this);clear hqy0;obtain⟨hb8,d8⟩:=new6 w11 (.int .i64 (f.1:Int)) (.int .i64 (f.2.1:Int)) (.int .i64 (f.2.2:Int)) (.bool sb) (.slice sA sn sc) (.slice sB sm sd);have hB8:=bt HB11.out hb8;have hO8:=HO11.out.below hb8;have hz8:w.heap.size+1<=(w11.alloc (M6 (.int .i64 (f.1:Int)) (.int .i64 (f.2.1:Int)) (.int .i64 (f.2.2:Int)) (.bool sb) (.slice sA sn sc) (.slice sB sm sd))).heap.size:=le_trans (show w.heap.size+1<=w11.heap.size from HD11.out.lt) hb8.size;obtain⟨v2,w2',HRUN2,hown2,hg2,_⟩:=hO8.app1 (m:=(f,q+y)) d8 (HQ11.out.below hb8) (by rw [List.length_take];have:=HLEN.out;omega) hz8;have HBZ:=hid (hB8.grown hg2 hB8.size (fun j e=>Nat.le_of_succ_le (hO8.lt j e).1));have HOZ:=hid hown2;have HZZ:Hid (w.heap.size+1<=w2'.heap.size):=hid (le_trans hz8 hg2.size);clear hb8 d8 hB8 hO8 hz8 hown2 hg2;have hk1l:j+1<=l.length:=hltK.out;have hl57:=HLEN.out;have hck:=HKC.out.2.2;by_cases hc9:c1=j+1
        ·have hle:l.length<=j+1:=by omega
         obtain⟨ys9,hrd9,hcs9⟩:=(HP.out.below HBZ.out).cells6;obtain⟨v3,w3',HRUN3,hown3,hg3,_⟩:=HOZ.out.app (show RdK w2' 6 [] (some ⟨b,o,none⟩) (l.length-(j+1)) 0 from by rw [Nat.sub_eq_zero_of_le hle];exact RdK.nil _ _ _ _) (Cells6.nil _) (by simp only [List.length_append,List.length_take,List.length_cons,List.length_nil];omega) HZZ.out;have hB10:=HBZ.out.grown hg3 HBZ.out.size (fun j e=>Nat.le_of_succ_le (HOZ.out.lt j e).1);have hlist:(l.take j++[(f,q+y)])++[]=listOf (addAt (co l) f q):=(by rw [<-HPUT.out];simp [List.drop_eq_nil_of_le hle]);have HEND:Hid (RetPol w (listOf (addAt (co l) f q)) (.returned v3) w3'):=hid ⟨v3,rfl,hlist▸hown3.pol,hB10⟩;clear hrd9 hcs9 hown3 hg3 hB10 hlist hle;go_wp2_with ((first|(at_builtin;refine Qa6 rfl (.tmp 75) (.tmp 77) rfl rfl _ _ _ _ rfl rfl HRUN2 ?_)|(at_builtin;refine Qa6 rfl (.tmp 79) (.tmp 83) rfl rfl _ _ _ _ rfl rfl HRUN3 ?_)|fail))
         go_ret;exact HEND.out
        ·obtain⟨ys9,hrd9,hcs9⟩:=(HP.out.below HBZ.out).cells6
         obtain⟨v3,w3',HRUN3,hown3,hg3,_⟩:=HOZ.out.app (hrd9.drop (j:=j+1) hk1l) (hcs9.drop (j+1)) (by simp only [List.length_append,List.length_take,List.length_cons,List.length_nil];omega) HZZ.out;have hB10:=HBZ.out.grown hg3 HBZ.out.size (fun j e=>Nat.le_of_succ_le (HOZ.out.lt j e).1);have hlist:(l.take j++[(f,q+y)])++l.drop (j+1)=listOf (addAt (co l) f q):=(by rw [<-HPUT.out];simp);have HEND:Hid (RetPol w (listOf (addAt (co l) f q)) (.returned v3) w3'):=hid ⟨v3,rfl,hlist▸hown3.pol,hB10⟩;clear hrd9 hcs9 hown3 hg3 hB10 hlist;go_wp2_with ((first|(at_builtin;refine Qa6 rfl (.tmp 75) (.tmp 77) rfl rfl _ _ _ _ rfl rfl HRUN2 ?_)|(at_builtin;refine Qa6 rfl (.tmp 79) (.tmp 83) rfl rfl _ _ _ _ rfl rfl HRUN3 ?_)|fail))
         go_ret;exact HEND.out
   ·have HV:Hid (lexI ((f.1:Int),(f.2.1:Int),(f.2.2:Int)) ((e.1:Int),(e.2.1:Int),(e.2.2:Int))= -1):=hid (Qxb (by
     rcases Qfz hfe with h1|h1
     ·exact h1
     ·rw [haft]at h1;cases h1))
    have HPUT:Hid (l.take j++([(e,q)]++l.drop j)=listOf (addAt (co l) e q)):=hid (HNEW.out (fun x hx2=>by
     rw [hx]at hx2;cases hx2;exact hfe))
    clear hx hb' hat hqy haft hfe hjl
    go_upto_region 4 with(fail)
    refine Qag 15 [18,19,20,21,22,23,24,25,26,27,28,29,30,31,32] [.val (.int .i64 (j:Int)),.val (.slice (some ⟨b,o,none⟩) l.length c1),.val (.int .i64 (l.length:Int)),.val (.bool true),.val (.bool true),.val (.slice (some ⟨b,o,none⟩) l.length c1),.val (.int .i64 (j:Int)),.val (.pointer (some ⟨b,o+j*6,none⟩)),.val (.pointer (some ⟨b,o+j*6,none⟩)),.val (.agg #[.int .i64 (f.1:Int),.int .i64 (f.2.1:Int),.int .i64 (f.2.2:Int)]),.val (.pointer (some ⟨w.heap.size,0,none⟩)),.val (.agg #[.int .i64 (e.1:Int),.int .i64 (e.2.1:Int),.int .i64 (e.2.2:Int)]),.val (.int .i64 (-1)),.val (.bool false),.val (.bool false)] (by kernel_rfl) (by kernel_rfl) (by kernel_rfl) (by kernel_rfl) ?stepxo 0 (by kernel_rfl) _ rfl ?finxo
    case stepxo=>
     intro i hi oi ho f' wx hB hdep K hK;simp only [frontAct,zf1,zf2,zf3,zf4,zf5]at hK⊢;obtain⟨x0,x1,x2,x3,x4,x5⟩:=HAT.out.below hB HLT.out;obtain⟨y0,y1,y2,y3,y4,y5⟩:=(HD6.out.below hB HD6.out.lt).c6;obtain rfl|rfl|rfl|rfl|rfl|rfl|rfl|rfl|rfl|rfl|rfl|rfl|rfl|rfl|rfl:=cs15 hi;all_goals
      obtain rfl:=Option.some.inj ho;simp only [Act.put,zf3,zf4,zf5]at hK
     rotate_left 12
     ·simp [gOf6,Sq.holds,Region.binds]at hdep
      simp only [hdep]at hK⊢;go_simp;refine(Qes (f.1:Int) (f.2.1:Int) (f.2.2:Int) (e.1:Int) (e.2.1:Int) (e.2.2:Int) wx (-1) HV).mono ?_;rintro e0 w' ⟨rfl,hb⟩;exact hK (.int .i64 (-1)) w' (gv6 rfl) hb (bt hB hb) (nb6 rfl rfl)
     rotate_left 2
     all_goals simp [gOf6,Sq.holds,Region.binds]at hdep
     all_goals try simp only [hdep]at hK⊢
     all_goals go_simp
     all_goals exact hK _ wx (gv6 rfl) (Below.refl _ _) hB (nb6 rfl rfl)
    case finxo=>
     intro f' wx hB hG hne;have e32:=dv6 (a:=f' 32) (hG 14 (by decide)) rfl;clear hG hne;simp only [frontAct,zf1,zf2,zf3,zf4,zf5];generalize f' 32=z32 at*;subst e32;have hBx:=bt HBW.out hB;have D6:=HD6.out.below hB HD6.out.lt;refine wpAny_done (by kernel_rfl) ?_ _;obtain⟨ys,hrd,hcs⟩:=(HP.out.below hBx).cells6;obtain⟨v1,w1,HRUN1,hown1,hg1,_⟩:=(OwnP.nil wx (w.heap.size+1)).app (hrd.take (m:=j) HKL.out) (hcs.take j) (by have:=HLEN.out;have:=HKL.out;simp;omega) D6.lt;have hb1:Below w.heap.size w w1:=hBx.grown hg1 hBx.size (fun j e=>by cases e);have D61:=D6.grw hg1 (fun e=>by cases e);rw [List.nil_append]at hown1;have HB1:=hid hb1;have HO1:=hid hown1;have HD1:=hid D61;have HKC:Hid (j<=c1/\0<c1/\l.length<=c1):=hid ⟨le_trans HKL.out hrd.cap,by have:=hrd.cap;have:=HL0.out;omega,hrd.cap⟩;clear hrd hcs hown1 hg1 hb1 D61 D6 hBx hB;have hkc:=HKC.out.1;have hkc0:=HKC.out.2.1
     go_upto_region 7 with(at_builtin;refine Qa6 rfl (.const (.slice none 0 0)) (.tmp 37) rfl rfl _ _ _ _ rfl rfl HRUN1 ?_)
     clear hkc hkc0;have HBW:=hid HB1.out.drew;have HD6:=hid HD1.out.drew;have HO2:=hid (HO1.out.below (Below.refl _ _).drew);have HAT:Hid (At6 w1.drew b (o+j*6) _ _ _ _ _ _):=hid (HAT0.out.keep (HBW.out.block b HBLT.out));have HLT:Hid (b<w1.drew.heap.size):=hid (lt_of_lt_of_le HBLT.out HBW.out.size);refine Qag 15 [39,40,41,42,43,44,45,46,47,48,49,50,51,52,53] [.val (.int .i64 (j:Int)),.val (.slice (some ⟨b,o,none⟩) l.length c1),.val (.int .i64 (l.length:Int)),.val (.bool false),.val (.bool false),.val (.slice (some ⟨b,o,none⟩) l.length c1),.val (.int .i64 (j:Int)),.val (.pointer (some ⟨b,o+j*6,none⟩)),.val (.pointer (some ⟨b,o+j*6,none⟩)),.val (.agg #[.int .i64 (f.1:Int),.int .i64 (f.2.1:Int),.int .i64 (f.2.2:Int)]),.val (.pointer (some ⟨w.heap.size,0,none⟩)),.val (.agg #[.int .i64 (e.1:Int),.int .i64 (e.2.1:Int),.int .i64 (e.2.2:Int)]),.val (.int .i64 (-1)),.val (.bool true),.val (.bool true)] (by kernel_rfl) (by kernel_rfl) (by kernel_rfl) (by kernel_rfl) ?stepro 0 (by kernel_rfl) _ rfl ?finro
     case stepro=>
      intro i hi oi ho f' wx hB hdep K hK;simp only [frontAct,zf1,zf2,zf3,zf4,zf5]at hK⊢;obtain⟨x0,x1,x2,x3,x4,x5⟩:=HAT.out.below hB HLT.out;obtain⟨y0,y1,y2,y3,y4,y5⟩:=(HD6.out.below hB HD6.out.lt).c6;obtain rfl|rfl|rfl|rfl|rfl|rfl|rfl|rfl|rfl|rfl|rfl|rfl|rfl|rfl|rfl:=cs15 hi;all_goals
       obtain rfl:=Option.some.inj ho;simp only [Act.put,zf3,zf4,zf5]at hK
      rotate_left 12
      ·simp [gOf6,Sq.holds,Region.binds]at hdep
       simp only [hdep]at hK⊢;go_simp;refine(Qes (f.1:Int) (f.2.1:Int) (f.2.2:Int) (e.1:Int) (e.2.1:Int) (e.2.2:Int) wx (-1) HV).mono ?_;rintro e0 w' ⟨rfl,hb⟩;exact hK (.int .i64 (-1)) w' (gv6 rfl) hb (bt hB hb) (nb6 rfl rfl)
      rotate_left 2
      all_goals simp [gOf6,Sq.holds,Region.binds]at hdep
      all_goals try simp only [hdep]at hK⊢
      all_goals go_simp
      all_goals exact hK _ wx (gv6 rfl) (Below.refl _ _) hB (nb6 rfl rfl)
     case finro=>
      intro f' wx hB hG hne;have e53:=dv6 (a:=f' 53) (hG 14 (by decide)) rfl;clear hG hne;simp only [frontAct,zf1,zf2,zf3,zf4,zf5];generalize f' 53=z53 at*;subst e53;have hBy:=bt HBW.out hB;have D6y:=HD6.out.below hB HD6.out.lt;have hO:=HO2.out.below hB;have HBY:=hid hBy.drew;obtain⟨hb8,d8⟩:=new6 wx.drew (.int .i64 (e.1:Int)) (.int .i64 (e.2.1:Int)) (.int .i64 (e.2.2:Int)) (.bool nb) (.slice A n c) (.slice B m k);have hB8:=bt HBY.out hb8;have hO8:=(hO.below (Below.refl _ _).drew).below hb8;have hz8:w.heap.size+1<=(wx.drew.alloc (M6 (.int .i64 (e.1:Int)) (.int .i64 (e.2.1:Int)) (.int .i64 (e.2.2:Int)) (.bool nb) (.slice A n c) (.slice B m k))).heap.size:=le_trans (show w.heap.size+1<=wx.drew.heap.size from D6y.lt) hb8.size;obtain⟨v2,w2',HRUN2,hown2,hg2,hk2⟩:=hO8.app1 (m:=(e,q)) d8 (HQ0.out.below hB8) (by rw [List.length_take];have:=HLEN.out;omega) hz8;have hB9:=hB8.grown hg2 hB8.size (fun j e=>Nat.le_of_succ_le (hO8.lt j e).1);obtain⟨ys9,hrd9,hcs9⟩:=(HP.out.below hB9).cells6;obtain⟨v3,w3',HRUN3,hown3,hg3,_⟩:=hown2.app (hrd9.drop (j:=j) HKL.out) (hcs9.drop j) (by rw [List.length_append,List.length_take];have:=HLEN.out;have:=HKL.out;simp;omega) (le_trans hz8 hg2.size);have hB10:=hB9.grown hg3 hB9.size (fun j e=>Nat.le_of_succ_le (hown2.lt j e).1);have HEND:Hid (RetPol w (listOf (addAt (co l) e q)) (.returned v3) w3'):=hid ⟨v3,rfl,by rw [<-HPUT.out,<-List.append_assoc];exact hown3.pol,hB10⟩;obtain⟨y0,y1,y2,y3,y4,y5⟩:=D6y.drew.c6;clear hBy D6y hO hb8 d8 hB8 hO8 hz8 hown2 hg2 hk2 hB9 hrd9 hcs9 hown3 hg3 hB10 hB;have hck:=HKC.out.1;have hjle:j<=l.length:=HKL.out;have hcj:¬c1=j:=(by have:=HKC.out.2.2;have:=hltK.out;omega);refine wpAny_done (by kernel_rfl) ?_ _
      go_upto_region 8 with(fail)
      go_region_law (first|(refine Qbg rfl (.tmp 54) (.tmp 56) rfl rfl _ _ _ _ rfl rfl HRUN2 ?_)|(refine Qbg rfl (.tmp 57) (.tmp 60) rfl rfl _ _ _ _ rfl rfl HRUN3 ?_)|fail)
      all_goals go_wp2_with fail
      all_goals go_ret
      all_goals exact HEND.out
  ·obtain rfl:j=l.length:=by have:=HKL.out;omega
   have HPUT:Hid (l.take l.length++([(e,q)]++l.drop l.length)=listOf (addAt (co l) e q)):=hid (HNEW.out (fun x hx2=>by
    rw [List.getElem?_eq_none (le_refl _)]at hx2;cases hx2))
   clear hjl
   go_upto_region 4 with(fail)
   refine Qag 15 [18,19,20,21,22,23,24,25,26,27,28,29,30,31,32] [.val (.int .i64 (l.length:Int)),.val (.slice (some ⟨b,o,none⟩) l.length c1),.val (.int .i64 (l.length:Int)),.val (.bool false),.val (.bool false),.val (undef),.val (undef),.val (undef),.val (undef),.val (undef),.val (undef),.val (undef),.val (undef),.val (undef),.val (.bool false)] (by kernel_rfl) (by kernel_rfl) (by kernel_rfl) (by kernel_rfl) ?stepxn 0 (by kernel_rfl) _ rfl ?finxn
   case stepxn=>
    intro i hi oi ho f' wx hB hdep K hK;simp only [frontAct,zf1,zf2,zf3,zf4,zf5]at hK⊢;obtain⟨y0,y1,y2,y3,y4,y5⟩:=(HD6.out.below hB HD6.out.lt).c6;obtain rfl|rfl|rfl|rfl|rfl|rfl|rfl|rfl|rfl|rfl|rfl|rfl|rfl|rfl|rfl:=cs15 hi;all_goals
     obtain rfl:=Option.some.inj ho;simp only [Act.put,zf3,zf4,zf5]at hK
    rotate_left 15
    all_goals simp [gOf6,Sq.holds,Region.binds]at hdep
    all_goals try simp only [hdep]at hK⊢
    all_goals go_simp
    all_goals exact hK _ wx (gv6 rfl) (Below.refl _ _) hB (nb6 rfl rfl)
   case finxn=>
    intro f' wx hB hG hne;have e32:=dv6 (a:=f' 32) (hG 14 (by decide)) rfl;clear hG hne;simp only [frontAct,zf1,zf2,zf3,zf4,zf5];generalize f' 32=z32 at*;subst e32;have hBx:=bt HBW.out hB;have D6:=HD6.out.below hB HD6.out.lt;refine wpAny_done (by kernel_rfl) ?_ _;obtain⟨ys,hrd,hcs⟩:=(HP.out.below hBx).cells6;obtain⟨v1,w1,HRUN1,hown1,hg1,_⟩:=(OwnP.nil wx (w.heap.size+1)).app (hrd.take (m:=l.length) HKL.out) (hcs.take l.length) (by have:=HLEN.out;have:=HKL.out;simp;omega) D6.lt;have hb1:Below w.heap.size w w1:=hBx.grown hg1 hBx.size (fun j e=>by cases e);have D61:=D6.grw hg1 (fun e=>by cases e);rw [List.nil_append]at hown1;have HB1:=hid hb1;have HO1:=hid hown1;have HD1:=hid D61;have HKC:Hid (l.length<=c1/\0<c1/\l.length<=c1):=hid ⟨le_trans HKL.out hrd.cap,by have:=hrd.cap;have:=HL0.out;omega,hrd.cap⟩;clear hrd hcs hown1 hg1 hb1 D61 D6 hBx hB;have hkc:=HKC.out.1;have hkc0:=HKC.out.2.1
    go_upto_region 7 with(at_builtin;refine Qa6 rfl (.const (.slice none 0 0)) (.tmp 37) rfl rfl _ _ _ _ rfl rfl HRUN1 ?_)
    clear hkc hkc0;have HBW:=hid HB1.out.drew;have HD6:=hid HD1.out.drew;have HO2:=hid (HO1.out.below (Below.refl _ _).drew);refine Qag 15 [39,40,41,42,43,44,45,46,47,48,49,50,51,52,53] [.val (.int .i64 (l.length:Int)),.val (.slice (some ⟨b,o,none⟩) l.length c1),.val (.int .i64 (l.length:Int)),.val (.bool true),.val (.bool true),.val (undef),.val (undef),.val (undef),.val (undef),.val (undef),.val (undef),.val (undef),.val (undef),.val (undef),.val (.bool true)] (by kernel_rfl) (by kernel_rfl) (by kernel_rfl) (by kernel_rfl) ?steprn 0 (by kernel_rfl) _ rfl ?finrn
    case steprn=>
     intro i hi oi ho f' wx hB hdep K hK;simp only [frontAct,zf1,zf2,zf3,zf4,zf5]at hK⊢;obtain⟨y0,y1,y2,y3,y4,y5⟩:=(HD6.out.below hB HD6.out.lt).c6;obtain rfl|rfl|rfl|rfl|rfl|rfl|rfl|rfl|rfl|rfl|rfl|rfl|rfl|rfl|rfl:=cs15 hi;all_goals
      obtain rfl:=Option.some.inj ho;simp only [Act.put,zf3,zf4,zf5]at hK
     rotate_left 15
     all_goals simp [gOf6,Sq.holds,Region.binds]at hdep
     all_goals try simp only [hdep]at hK⊢
     all_goals go_simp
     all_goals exact hK _ wx (gv6 rfl) (Below.refl _ _) hB (nb6 rfl rfl)
    case finrn=>
     intro f' wx hB hG hne;have e53:=dv6 (a:=f' 53) (hG 14 (by decide)) rfl;clear hG hne;simp only [frontAct,zf1,zf2,zf3,zf4,zf5];generalize f' 53=z53 at*;subst e53;by_cases hc9:c1=l.length
     ·have hBy:=bt HBW.out hB
      have D6y:=HD6.out.below hB HD6.out.lt;have hO:=HO2.out.below hB;have HBY:=hid hBy.drew;obtain⟨hb8,d8⟩:=new6 wx.drew (.int .i64 (e.1:Int)) (.int .i64 (e.2.1:Int)) (.int .i64 (e.2.2:Int)) (.bool nb) (.slice A n c) (.slice B m k);have hB8:=bt HBY.out hb8;have hO8:=(hO.below (Below.refl _ _).drew).below hb8;have hz8:w.heap.size+1<=(wx.drew.alloc (M6 (.int .i64 (e.1:Int)) (.int .i64 (e.2.1:Int)) (.int .i64 (e.2.2:Int)) (.bool nb) (.slice A n c) (.slice B m k))).heap.size:=le_trans (show w.heap.size+1<=wx.drew.heap.size from D6y.lt) hb8.size;obtain⟨v2,w2',HRUN2,hown2,hg2,hk2⟩:=hO8.app1 (m:=(e,q)) d8 (HQ0.out.below hB8) (by rw [List.length_take];have:=HLEN.out;omega) hz8;have hB9:=hB8.grown hg2 hB8.size (fun j e=>Nat.le_of_succ_le (hO8.lt j e).1);obtain⟨v3,w3',HRUN3,hown3,hg3,_⟩:=hown2.app (RdK.nil _ 6 (some ⟨b,o,none⟩) 0) (Cells6.nil _) (by rw [List.length_append,List.length_take];have:=HLEN.out;simp;omega) (le_trans hz8 hg2.size);have hB10:=hB9.grown hg3 hB9.size (fun j e=>Nat.le_of_succ_le (hown2.lt j e).1);have hlist:l.take l.length++[(e,q)]++[]=listOf (addAt (co l) e q):=(by rw [<-HPUT.out];simp);have HEND:Hid (RetPol w (listOf (addAt (co l) e q)) (.returned v3) w3'):=hid ⟨v3,rfl,hlist▸hown3.pol,hB10⟩;obtain⟨y0,y1,y2,y3,y4,y5⟩:=D6y.drew.c6;clear hBy D6y hO hb8 d8 hB8 hO8 hz8 hown2 hg2 hk2 hB9 hown3 hg3 hB10 hB hlist;refine wpAny_done (by kernel_rfl) ?_ _
      go_upto_region 8 with(fail)
      go_region_law (first|(refine Qbg rfl (.tmp 54) (.tmp 56) rfl rfl _ _ _ _ rfl rfl HRUN2 ?_)|(refine Qbg rfl (.tmp 57) (.tmp 60) rfl rfl _ _ _ _ rfl rfl HRUN3 ?_)|fail)
      all_goals go_wp2_with fail
      all_goals go_ret
      all_goals exact HEND.out
     ·have hBy:=bt HBW.out hB
      have D6y:=HD6.out.below hB HD6.out.lt;have hO:=HO2.out.below hB;have HBY:=hid hBy.drew;obtain⟨hb8,d8⟩:=new6 wx.drew (.int .i64 (e.1:Int)) (.int .i64 (e.2.1:Int)) (.int .i64 (e.2.2:Int)) (.bool nb) (.slice A n c) (.slice B m k);have hB8:=bt HBY.out hb8;have hO8:=(hO.below (Below.refl _ _).drew).below hb8;have hz8:w.heap.size+1<=(wx.drew.alloc (M6 (.int .i64 (e.1:Int)) (.int .i64 (e.2.1:Int)) (.int .i64 (e.2.2:Int)) (.bool nb) (.slice A n c) (.slice B m k))).heap.size:=le_trans (show w.heap.size+1<=wx.drew.heap.size from D6y.lt) hb8.size;obtain⟨v2,w2',HRUN2,hown2,hg2,hk2⟩:=hO8.app1 (m:=(e,q)) d8 (HQ0.out.below hB8) (by rw [List.length_take];have:=HLEN.out;omega) hz8;have hB9:=hB8.grown hg2 hB8.size (fun j e=>Nat.le_of_succ_le (hO8.lt j e).1);obtain⟨v3,w3',HRUN3,hown3,hg3,_⟩:=hown2.app (RdK.nil _ 6 (some ⟨b,o+l.length*6,none⟩) (c1-l.length)) (Cells6.nil _) (by rw [List.length_append,List.length_take];have:=HLEN.out;simp;omega) (le_trans hz8 hg2.size);have hB10:=hB9.grown hg3 hB9.size (fun j e=>Nat.le_of_succ_le (hown2.lt j e).1);have hlist:l.take l.length++[(e,q)]++[]=listOf (addAt (co l) e q):=(by rw [<-HPUT.out];simp);have HEND:Hid (RetPol w (listOf (addAt (co l) e q)) (.returned v3) w3'):=hid ⟨v3,rfl,hlist▸hown3.pol,hB10⟩;obtain⟨y0,y1,y2,y3,y4,y5⟩:=D6y.drew.c6;clear hBy D6y hO hb8 d8 hB8 hO8 hz8 hown2 hg2 hk2 hB9 hown3 hg3 hB10 hB hlist;refine wpAny_done (by kernel_rfl) ?_ _
      go_upto_region 8 with(fail)
      go_region_law (first|(refine Qbg rfl (.tmp 54) (.tmp 56) rfl rfl _ _ _ _ rfl rfl HRUN2 ?_)|(refine Qbg rfl (.tmp 57) (.tmp 60) rfl rfl _ _ _ _ rfl rfl HRUN3 ?_)|fail)
      all_goals go_wp2_with fail
      all_goals go_ret
      all_goals exact HEND.out
theorem Qj7(c:Co)(e:Ex)(q:Rat):listOf (addAt (co (listOf c)) e q)=listOf (addAt c e q):=Qbr (fun f hf=>by unfold addAt;rw [Qmb,if_pos hf])
theorem Qu7{l:List Mon}(h:VP l)(k:Nat):VP (l.take k):=⟨fun m hm=>h.1 m (List.mem_of_mem_take hm),h.2.sublist (List.take_sublist _ _)⟩
theorem Qgu{l:List Mon}(h:VP l){e:Ex}{q:Rat}(h0:¬deg e<=5\/q=0):listOf (addAt (co l) e q)=l:=by
 conv=>rhs;rw [<-Qbs h]
 refine Qbr (fun f hf=>?_);unfold addAt;rcases h0 with h0|h0
 ·rw [if_neg (fun(e':f=e)=>h0 (e'▸hf)),Rat.add_zero]
 ·subst h0;split<;>rw [Rat.add_zero]
theorem Qet{w:World}{B:Nat}{v:Value}{l:List Mon}(h:OwnP w B v l):Hid (∀A c,Hid ((Builtin.append_ #[29,29] 29 #[v,.slice A 0 c]).run prog w=.ok v w)):=hid (fun A c=>by
 obtain⟨i0,hi,hz0,hz1,hz2⟩:=info_parts Qhi;obtain⟨ys,hown,_⟩:=h.row;refine hid ?_;rcases hown.2 with⟨rfl,_⟩|⟨g,cap,cur,rfl,_,_,hnc,_⟩
 ·cases A<;>simp [Builtin.append_,run_underlying underlying29,sizeOf,typeInfo,hi,Builtin.lenOf,Builtin.firstCells,hz1,loadCells,loadCellsFrom,storeCells]
 ·cases A<;>simp [Builtin.append_,run_underlying underlying29,sizeOf,typeInfo,hi,Builtin.lenOf,Builtin.firstCells,hz1,hnc,loadCells,loadCellsFrom,storeCells])
theorem Qo2(c1:Nat)(e:Ex)(q:Rat)(nb:Bool)(A B:Option Addr)(n c m k:Nat)(w:World)(hq:RatQ w (.agg #[.bool nb,.slice A n c,.slice B m k]) q)(hS:Sz q 200000)(hd:deg e<=5)(h0:q≠0):
 Calls prog 73 #[.slice none 0 c1,.agg #[.int .i64 (e.1:Int),.int .i64 (e.2.1:Int),.int .i64 (e.2.2:Int),.bool nb,.slice A n c,.slice B m k]] w (RetPol w [(e,q)]):=by
 obtain⟨hb6,d6⟩:=new6 w (.int .i64 (e.1:Int)) (.int .i64 (e.2.1:Int)) (.int .i64 (e.2.2:Int)) (.bool nb) (.slice A n c) (.slice B m k);have HQ0:=hid hq;have HSQ:=hid hS;have hkn:Hid (knownI ((e.1:Int),(e.2.1:Int),(e.2.2:Int))=true):=hid (by rw [Qb3];exact decide_eq_true hd);have HNZ:=hid h0;have y:=d6.c6;clear hq hS hd h0;go_enter func73,ntmps73;go_wp2_with fail
 generalize (w.alloc (M6 (.int .i64 (e.1:Int)) (.int .i64 (e.2.1:Int)) (.int .i64 (e.2.2:Int)) (.bool nb) (.slice A n c) (.slice B m k)))=W at*
 refine(Qa9 _ _ _ _ _ hkn).mono ?_;rintro e2 w2 ⟨rfl,hb2⟩;replace hb6:=bt hb6 hb2;replace d6:=d6.below hb2 d6.lt;replace y:=d6.c6;clear hb2 hkn;obtain⟨sg,hsg⟩:∃sg,q.num.sign=sg:=⟨_,rfl⟩;have HSG:=hid hsg;have hs0:(sg==0)=false:=by rw [<-hsg,Qcj];exact decide_eq_false HNZ.out
 have HS0:=hid hs0;clear hs0 hsg;go_wp2_with fail
 refine(Qeb _ q sg _ ((HQ0.out.below hb6).inr HSQ.out (by omega)) HSG).mono ?_;rintro e3 w3 ⟨rfl,hb3⟩;replace hb6:=bt hb6 hb3;replace d6:=d6.below hb3 d6.lt;clear hb3 y;have hs0:=HS0.out;go_wp2_with fail
 clear hs0;refine wp_loop_rounds 2 ?_;rw [rounds_succ];have HBW:=hid hb6.drew;have HD6:=hid d6.drew;clear hb6 d6
 go_upto_region 4 with(fail)
 refine Qag 15 [18,19,20,21,22,23,24,25,26,27,28,29,30,31,32] [.val (.int .i64 0),.val (.slice none 0 c1),.val (.int .i64 0),.val (.bool false),.val (.bool false),.val (undef),.val (undef),.val (undef),.val (undef),.val (undef),.val (undef),.val (undef),.val (undef),.val (undef),.val (.bool false)] (by kernel_rfl) (by kernel_rfl) (by kernel_rfl) (by kernel_rfl) ?stepa 0 (by kernel_rfl) _ rfl ?fina
 case stepa=>
  intro i hi oi ho f' wx hB hdep K hK;simp only [frontAct,zf1,zf2,zf3,zf4,zf5]at hK⊢;obtain⟨y0,y1,y2,y3,y4,y5⟩:=(HD6.out.below hB HD6.out.lt).c6;obtain rfl|rfl|rfl|rfl|rfl|rfl|rfl|rfl|rfl|rfl|rfl|rfl|rfl|rfl|rfl:=cs15 hi;all_goals
   obtain rfl:=Option.some.inj ho;simp only [Act.put,zf3,zf4,zf5]at hK
  rotate_left 15
  all_goals simp [gOf6,Sq.holds,Region.binds]at hdep
  all_goals try simp only [hdep]at hK⊢
  all_goals go_simp
  all_goals exact hK _ wx (gv6 rfl) (Below.refl _ _) hB (nb6 rfl rfl)
 case fina=>
  intro f' wx hB hG hne;have e32:=dv6 (a:=f' 32) (hG 14 (by decide)) rfl;clear hG hne;simp only [frontAct,zf1,zf2,zf3,zf4,zf5];generalize f' 32=z32 at*;subst e32;refine wpAny_done (by kernel_rfl) ?_ _;have HB1:=hid (bt HBW.out hB).drew;have HD1:=hid (HD6.out.below hB HD6.out.lt).drew;have HRUN1:=Qet (OwnP.nil wx 0);clear hB
  go_upto_region 7 with(at_builtin;refine Qa6 rfl (.const (.slice none 0 0)) (.tmp 37) rfl rfl _ _ _ _ rfl rfl (HRUN1.out _ _) ?_)
  replace HBW:=HB1;replace HD6:=HD1;refine Qag 15 [39,40,41,42,43,44,45,46,47,48,49,50,51,52,53] [.val (.int .i64 0),.val (.slice none 0 c1),.val (.int .i64 0),.val (.bool true),.val (.bool true),.val (undef),.val (undef),.val (undef),.val (undef),.val (undef),.val (undef),.val (undef),.val (undef),.val (undef),.val (.bool true)] (by kernel_rfl) (by kernel_rfl) (by kernel_rfl) (by kernel_rfl) ?stepb 0 (by kernel_rfl) _ rfl ?finb
  case stepb=>
   intro i hi oi ho f' wx hB hdep K hK;simp only [frontAct,zf1,zf2,zf3,zf4,zf5]at hK⊢;obtain⟨y0,y1,y2,y3,y4,y5⟩:=(HD6.out.below hB HD6.out.lt).c6;obtain rfl|rfl|rfl|rfl|rfl|rfl|rfl|rfl|rfl|rfl|rfl|rfl|rfl|rfl|rfl:=cs15 hi;all_goals
    obtain rfl:=Option.some.inj ho;simp only [Act.put,zf3,zf4,zf5]at hK
   rotate_left 15
   all_goals simp [gOf6,Sq.holds,Region.binds]at hdep
   all_goals try simp only [hdep]at hK⊢
   all_goals go_simp
   all_goals exact hK _ wx (gv6 rfl) (Below.refl _ _) hB (nb6 rfl rfl)
  case finb=>
   intro f' wx hB hG hne;have e53:=dv6 (a:=f' 53) (hG 14 (by decide)) rfl;clear hG hne;simp only [frontAct,zf1,zf2,zf3,zf4,zf5];generalize f' 53=z53 at*;subst e53;refine wpAny_done (by kernel_rfl) ?_ _;have hBy:=bt HBW.out hB;have D6y:=HD6.out.below hB HD6.out.lt;have HBY:=hid hBy.drew;obtain⟨hb8,d8⟩:=new6 wx.drew (.int .i64 (e.1:Int)) (.int .i64 (e.2.1:Int)) (.int .i64 (e.2.2:Int)) (.bool nb) (.slice A n c) (.slice B m k);have hB8:=bt HBY.out hb8;obtain⟨v2,w2',HRUN2,hown2,hg2,hk2⟩:=(OwnP.nil (wx.drew.alloc (M6 (.int .i64 (e.1:Int)) (.int .i64 (e.2.1:Int)) (.int .i64 (e.2.2:Int)) (.bool nb) (.slice A n c) (.slice B m k))) w.heap.size).app1 (m:=(e,q)) d8 (HQ0.out.below hB8) (by simp) hB8.size;have hB9:=hB8.grown hg2 hB8.size (fun j e=>by cases e);have HRUN3:=Qet hown2;have HEND:Hid (RetPol w [(e,q)] (.returned v2) w2'):=hid ⟨v2,rfl,hown2.pol,hB9⟩;obtain⟨y0,y1,y2,y3,y4,y5⟩:=D6y.drew.c6;clear hBy D6y hb8 d8 hB8 hown2 hg2 hk2 hB9 hB
   go_upto_region 8 with(fail)
   go_region_law (first|(refine Qbg rfl (.tmp 54) (.tmp 56) rfl rfl _ _ _ _ rfl rfl HRUN2 ?_)|(refine Qbg rfl (.tmp 57) (.tmp 60) rfl rfl _ _ _ _ rfl rfl (HRUN3.out _ _) ?_)|fail)
   all_goals go_wp2_with fail
   all_goals go_ret
   all_goals exact HEND.out
theorem Qo3(a:Addr)(e:Ex)(q:Rat)(nb:Bool)(A B:Option Addr)(n c m k:Nat)(w:World)(hq:RatQ w (.agg #[.bool nb,.slice A n c,.slice B m k]) q)(hS:Sz q 200000)(hd:deg e<=5)(h0:q≠0):
 Calls prog 73 #[.slice (some a) 0 0,.agg #[.int .i64 (e.1:Int),.int .i64 (e.2.1:Int),.int .i64 (e.2.2:Int),.bool nb,.slice A n c,.slice B m k]] w (RetPol w [(e,q)]):=by
 obtain⟨hb6,d6⟩:=new6 w (.int .i64 (e.1:Int)) (.int .i64 (e.2.1:Int)) (.int .i64 (e.2.2:Int)) (.bool nb) (.slice A n c) (.slice B m k);have HQ0:=hid hq;have HSQ:=hid hS;have hkn:Hid (knownI ((e.1:Int),(e.2.1:Int),(e.2.2:Int))=true):=hid (by rw [Qb3];exact decide_eq_true hd);have HNZ:=hid h0;have y:=d6.c6;clear hq hS hd h0;go_enter func73,ntmps73;go_wp2_with fail
 generalize (w.alloc (M6 (.int .i64 (e.1:Int)) (.int .i64 (e.2.1:Int)) (.int .i64 (e.2.2:Int)) (.bool nb) (.slice A n c) (.slice B m k)))=W at*
 refine(Qa9 _ _ _ _ _ hkn).mono ?_;rintro e2 w2 ⟨rfl,hb2⟩;replace hb6:=bt hb6 hb2;replace d6:=d6.below hb2 d6.lt;replace y:=d6.c6;clear hb2 hkn;obtain⟨sg,hsg⟩:∃sg,q.num.sign=sg:=⟨_,rfl⟩;have HSG:=hid hsg;have hs0:(sg==0)=false:=by rw [<-hsg,Qcj];exact decide_eq_false HNZ.out
 have HS0:=hid hs0;clear hs0 hsg;go_wp2_with fail
 refine(Qeb _ q sg _ ((HQ0.out.below hb6).inr HSQ.out (by omega)) HSG).mono ?_;rintro e3 w3 ⟨rfl,hb3⟩;replace hb6:=bt hb6 hb3;replace d6:=d6.below hb3 d6.lt;clear hb3 y;have hs0:=HS0.out;go_wp2_with fail
 clear hs0;refine wp_loop_rounds 2 ?_;rw [rounds_succ];have HBW:=hid hb6.drew;have HD6:=hid d6.drew;clear hb6 d6
 go_upto_region 4 with(fail)
 refine Qag 15 [18,19,20,21,22,23,24,25,26,27,28,29,30,31,32] [.val (.int .i64 0),.val (.slice (some a) 0 0),.val (.int .i64 0),.val (.bool false),.val (.bool false),.val (undef),.val (undef),.val (undef),.val (undef),.val (undef),.val (undef),.val (undef),.val (undef),.val (undef),.val (.bool false)] (by kernel_rfl) (by kernel_rfl) (by kernel_rfl) (by kernel_rfl) ?stepa 0 (by kernel_rfl) _ rfl ?fina
 case stepa=>
  intro i hi oi ho f' wx hB hdep K hK;simp only [frontAct,zf1,zf2,zf3,zf4,zf5]at hK⊢;obtain⟨y0,y1,y2,y3,y4,y5⟩:=(HD6.out.below hB HD6.out.lt).c6;obtain rfl|rfl|rfl|rfl|rfl|rfl|rfl|rfl|rfl|rfl|rfl|rfl|rfl|rfl|rfl:=cs15 hi;all_goals
   obtain rfl:=Option.some.inj ho;simp only [Act.put,zf3,zf4,zf5]at hK
  rotate_left 15
  all_goals simp [gOf6,Sq.holds,Region.binds]at hdep
  all_goals try simp only [hdep]at hK⊢
  all_goals go_simp
  all_goals exact hK _ wx (gv6 rfl) (Below.refl _ _) hB (nb6 rfl rfl)
 case fina=>
  intro f' wx hB hG hne;have e32:=dv6 (a:=f' 32) (hG 14 (by decide)) rfl;clear hG hne;simp only [frontAct,zf1,zf2,zf3,zf4,zf5];generalize f' 32=z32 at*;subst e32;refine wpAny_done (by kernel_rfl) ?_ _;have HB1:=hid (bt HBW.out hB).drew;have HD1:=hid (HD6.out.below hB HD6.out.lt).drew;have HRUN1:=Qet (OwnP.nil wx 0);clear hB
  go_upto_region 7 with(at_builtin;refine Qa6 rfl (.const (.slice none 0 0)) (.tmp 37) rfl rfl _ _ _ _ rfl rfl (HRUN1.out _ _) ?_)
  replace HBW:=HB1;replace HD6:=HD1;refine Qag 15 [39,40,41,42,43,44,45,46,47,48,49,50,51,52,53] [.val (.int .i64 0),.val (.slice (some a) 0 0),.val (.int .i64 0),.val (.bool true),.val (.bool true),.val (undef),.val (undef),.val (undef),.val (undef),.val (undef),.val (undef),.val (undef),.val (undef),.val (undef),.val (.bool true)] (by kernel_rfl) (by kernel_rfl) (by kernel_rfl) (by kernel_rfl) ?stepb 0 (by kernel_rfl) _ rfl ?finb
  case stepb=>
   intro i hi oi ho f' wx hB hdep K hK;simp only [frontAct,zf1,zf2,zf3,zf4,zf5]at hK⊢;obtain⟨y0,y1,y2,y3,y4,y5⟩:=(HD6.out.below hB HD6.out.lt).c6;obtain rfl|rfl|rfl|rfl|rfl|rfl|rfl|rfl|rfl|rfl|rfl|rfl|rfl|rfl|rfl:=cs15 hi;all_goals
    obtain rfl:=Option.some.inj ho;simp only [Act.put,zf3,zf4,zf5]at hK
   rotate_left 15
   all_goals simp [gOf6,Sq.holds,Region.binds]at hdep
   all_goals try simp only [hdep]at hK⊢
   all_goals go_simp
   all_goals exact hK _ wx (gv6 rfl) (Below.refl _ _) hB (nb6 rfl rfl)
  case finb=>
   intro f' wx hB hG hne;have e53:=dv6 (a:=f' 53) (hG 14 (by decide)) rfl;clear hG hne;simp only [frontAct,zf1,zf2,zf3,zf4,zf5];generalize f' 53=z53 at*;subst e53;refine wpAny_done (by kernel_rfl) ?_ _;have hBy:=bt HBW.out hB;have D6y:=HD6.out.below hB HD6.out.lt;have HBY:=hid hBy.drew;obtain⟨hb8,d8⟩:=new6 wx.drew (.int .i64 (e.1:Int)) (.int .i64 (e.2.1:Int)) (.int .i64 (e.2.2:Int)) (.bool nb) (.slice A n c) (.slice B m k);have hB8:=bt HBY.out hb8;obtain⟨v2,w2',HRUN2,hown2,hg2,hk2⟩:=(OwnP.nil (wx.drew.alloc (M6 (.int .i64 (e.1:Int)) (.int .i64 (e.2.1:Int)) (.int .i64 (e.2.2:Int)) (.bool nb) (.slice A n c) (.slice B m k))) w.heap.size).app1 (m:=(e,q)) d8 (HQ0.out.below hB8) (by simp) hB8.size;have hB9:=hB8.grown hg2 hB8.size (fun j e=>by cases e);have HRUN3:=Qet hown2;have HEND:Hid (RetPol w [(e,q)] (.returned v2) w2'):=hid ⟨v2,rfl,hown2.pol,hB9⟩;obtain⟨y0,y1,y2,y3,y4,y5⟩:=D6y.drew.c6;clear hBy D6y hb8 d8 hB8 hown2 hg2 hk2 hB9 hB
   go_upto_region 8 with(fail)
   go_region_law (first|(refine Qbg rfl (.tmp 54) (.tmp 56) rfl rfl _ _ _ _ rfl rfl HRUN2 ?_)|(refine Qbg rfl (.tmp 57) (.tmp 60) rfl rfl _ _ _ _ rfl rfl (HRUN3.out _ _) ?_)|fail)
   all_goals go_wp2_with fail
   all_goals go_ret
   all_goals exact HEND.out
theorem Qo4(a:Addr)(c1:Nat)(e:Ex)(q:Rat)(nb:Bool)(A B:Option Addr)(n c m k:Nat)(w:World)(hq:RatQ w (.agg #[.bool nb,.slice A n c,.slice B m k]) q)(hS:Sz q 200000)(hd:deg e<=5)(h0:q≠0)(hc:¬c1=0):
 Calls prog 73 #[.slice (some a) 0 c1,.agg #[.int .i64 (e.1:Int),.int .i64 (e.2.1:Int),.int .i64 (e.2.2:Int),.bool nb,.slice A n c,.slice B m k]] w (RetPol w [(e,q)]):=by
 obtain⟨hb6,d6⟩:=new6 w (.int .i64 (e.1:Int)) (.int .i64 (e.2.1:Int)) (.int .i64 (e.2.2:Int)) (.bool nb) (.slice A n c) (.slice B m k);have HQ0:=hid hq;have HSQ:=hid hS;have hkn:Hid (knownI ((e.1:Int),(e.2.1:Int),(e.2.2:Int))=true):=hid (by rw [Qb3];exact decide_eq_true hd);have HNZ:=hid h0;have y:=d6.c6;clear hq hS hd h0;go_enter func73,ntmps73;go_wp2_with fail
 generalize (w.alloc (M6 (.int .i64 (e.1:Int)) (.int .i64 (e.2.1:Int)) (.int .i64 (e.2.2:Int)) (.bool nb) (.slice A n c) (.slice B m k)))=W at*
 refine(Qa9 _ _ _ _ _ hkn).mono ?_;rintro e2 w2 ⟨rfl,hb2⟩;replace hb6:=bt hb6 hb2;replace d6:=d6.below hb2 d6.lt;replace y:=d6.c6;clear hb2 hkn;obtain⟨sg,hsg⟩:∃sg,q.num.sign=sg:=⟨_,rfl⟩;have HSG:=hid hsg;have hs0:(sg==0)=false:=by rw [<-hsg,Qcj];exact decide_eq_false HNZ.out
 have HS0:=hid hs0;clear hs0 hsg;go_wp2_with fail
 refine(Qeb _ q sg _ ((HQ0.out.below hb6).inr HSQ.out (by omega)) HSG).mono ?_;rintro e3 w3 ⟨rfl,hb3⟩;replace hb6:=bt hb6 hb3;replace d6:=d6.below hb3 d6.lt;clear hb3 y;have hs0:=HS0.out;go_wp2_with fail
 clear hs0;refine wp_loop_rounds 2 ?_;rw [rounds_succ];have HBW:=hid hb6.drew;have HD6:=hid d6.drew;clear hb6 d6
 go_upto_region 4 with(fail)
 refine Qag 15 [18,19,20,21,22,23,24,25,26,27,28,29,30,31,32] [.val (.int .i64 0),.val (.slice (some a) 0 c1),.val (.int .i64 0),.val (.bool false),.val (.bool false),.val (undef),.val (undef),.val (undef),.val (undef),.val (undef),.val (undef),.val (undef),.val (undef),.val (undef),.val (.bool false)] (by kernel_rfl) (by kernel_rfl) (by kernel_rfl) (by kernel_rfl) ?stepa 0 (by kernel_rfl) _ rfl ?fina
 case stepa=>
  intro i hi oi ho f' wx hB hdep K hK;simp only [frontAct,zf1,zf2,zf3,zf4,zf5]at hK⊢;obtain⟨y0,y1,y2,y3,y4,y5⟩:=(HD6.out.below hB HD6.out.lt).c6;obtain rfl|rfl|rfl|rfl|rfl|rfl|rfl|rfl|rfl|rfl|rfl|rfl|rfl|rfl|rfl:=cs15 hi;all_goals
   obtain rfl:=Option.some.inj ho;simp only [Act.put,zf3,zf4,zf5]at hK
  rotate_left 15
  all_goals simp [gOf6,Sq.holds,Region.binds]at hdep
  all_goals try simp only [hdep]at hK⊢
  all_goals go_simp
  all_goals exact hK _ wx (gv6 rfl) (Below.refl _ _) hB (nb6 rfl rfl)
 case fina=>
  intro f' wx hB hG hne;have e32:=dv6 (a:=f' 32) (hG 14 (by decide)) rfl;clear hG hne;simp only [frontAct,zf1,zf2,zf3,zf4,zf5];generalize f' 32=z32 at*;subst e32;refine wpAny_done (by kernel_rfl) ?_ _;have HB1:=hid (bt HBW.out hB).drew;have HD1:=hid (HD6.out.below hB HD6.out.lt).drew;have HRUN1:=Qet (OwnP.nil wx 0);clear hB
  go_upto_region 7 with(at_builtin;refine Qa6 rfl (.const (.slice none 0 0)) (.tmp 37) rfl rfl _ _ _ _ rfl rfl (HRUN1.out _ _) ?_)
  replace HBW:=HB1;replace HD6:=HD1;refine Qag 15 [39,40,41,42,43,44,45,46,47,48,49,50,51,52,53] [.val (.int .i64 0),.val (.slice (some a) 0 c1),.val (.int .i64 0),.val (.bool true),.val (.bool true),.val (undef),.val (undef),.val (undef),.val (undef),.val (undef),.val (undef),.val (undef),.val (undef),.val (undef),.val (.bool true)] (by kernel_rfl) (by kernel_rfl) (by kernel_rfl) (by kernel_rfl) ?stepb 0 (by kernel_rfl) _ rfl ?finb
  case stepb=>
   intro i hi oi ho f' wx hB hdep K hK;simp only [frontAct,zf1,zf2,zf3,zf4,zf5]at hK⊢;obtain⟨y0,y1,y2,y3,y4,y5⟩:=(HD6.out.below hB HD6.out.lt).c6;obtain rfl|rfl|rfl|rfl|rfl|rfl|rfl|rfl|rfl|rfl|rfl|rfl|rfl|rfl|rfl:=cs15 hi;all_goals
    obtain rfl:=Option.some.inj ho;simp only [Act.put,zf3,zf4,zf5]at hK
   rotate_left 15
   all_goals simp [gOf6,Sq.holds,Region.binds]at hdep
   all_goals try simp only [hdep]at hK⊢
   all_goals go_simp
   all_goals exact hK _ wx (gv6 rfl) (Below.refl _ _) hB (nb6 rfl rfl)
  case finb=>
   intro f' wx hB hG hne;have e53:=dv6 (a:=f' 53) (hG 14 (by decide)) rfl;clear hG hne;simp only [frontAct,zf1,zf2,zf3,zf4,zf5];generalize f' 53=z53 at*;subst e53;refine wpAny_done (by kernel_rfl) ?_ _;have hBy:=bt HBW.out hB;have D6y:=HD6.out.below hB HD6.out.lt;have HBY:=hid hBy.drew;obtain⟨hb8,d8⟩:=new6 wx.drew (.int .i64 (e.1:Int)) (.int .i64 (e.2.1:Int)) (.int .i64 (e.2.2:Int)) (.bool nb) (.slice A n c) (.slice B m k);have hB8:=bt HBY.out hb8;obtain⟨v2,w2',HRUN2,hown2,hg2,hk2⟩:=(OwnP.nil (wx.drew.alloc (M6 (.int .i64 (e.1:Int)) (.int .i64 (e.2.1:Int)) (.int .i64 (e.2.2:Int)) (.bool nb) (.slice A n c) (.slice B m k))) w.heap.size).app1 (m:=(e,q)) d8 (HQ0.out.below hB8) (by simp) hB8.size;have hB9:=hB8.grown hg2 hB8.size (fun j e=>by cases e);have HRUN3:=Qet hown2;have HEND:Hid (RetPol w [(e,q)] (.returned v2) w2'):=hid ⟨v2,rfl,hown2.pol,hB9⟩;obtain⟨y0,y1,y2,y3,y4,y5⟩:=D6y.drew.c6;clear hBy D6y hb8 d8 hB8 hown2 hg2 hk2 hB9 hB
   go_upto_region 8 with(fail)
   go_region_law (first|(refine Qbg rfl (.tmp 54) (.tmp 56) rfl rfl _ _ _ _ rfl rfl HRUN2 ?_)|(refine Qbg rfl (.tmp 57) (.tmp 60) rfl rfl _ _ _ _ rfl rfl (HRUN3.out _ _) ?_)|fail)
   all_goals go_wp2_with fail
   all_goals go_ret
   all_goals exact HEND.out
theorem Qu8(v:Value)(l:List Mon)(e:Ex)(q:Rat)(nb:Bool)(A B:Option Addr)(n c m k:Nat)(w:World)(h:Pol w v l)(hv:VP l)(hs:SzL l 200000)(hq:RatQ w (.agg #[.bool nb,.slice A n c,.slice B m k]) q)(hS:Sz q 200000):
 Calls prog 73 #[v,.agg #[.int .i64 (e.1:Int),.int .i64 (e.2.1:Int),.int .i64 (e.2.2:Int),.bool nb,.slice A n c,.slice B m k]] w (RetPol w (listOf (addAt (co l) e q))):=by
 by_cases h0:¬deg e<=5\/q=0
 ·rw [Qgu hv h0]
  exact Qoz v l e q nb A B n c m k 200000 w h hq hS (by omega) h0
 ·have hd:deg e<=5:=Classical.byContradiction (fun hh=>h0 (.inl hh))
  have hz:q≠0:=fun hh=>h0 (.inr hh)
  rcases Nat.eq_zero_or_pos l.length with hl|hl
  ·obtain rfl:l=[]:=List.eq_nil_of_length_eq_zero hl
   obtain⟨A1,c1,rfl⟩:=h.slice;have he:listOf (addAt (co []) e q)=[(e,q)]:=by
    have:=Qnh hv hd hz (fun x hx=>by simp at hx)
    simpa using this.symm
   rw [he];rcases A1 with _|a
   ·exact Qo2 c1 e q nb A B n c m k w hq hS hd hz
   ·by_cases hc:c1=0
    ·subst hc
     exact Qo3 a e q nb A B n c m k w hq hS hd hz
    ·exact Qo4 a c1 e q nb A B n c m k w hq hS hd hz hc
  ·exact Qo1 v l e q nb A B n c m k w h hv hl hs hq hS hd hz
def PIr(w:World)(v:Value)(p:List Mon)(L:Nat):Prop:=∃raw,PRe w v raw/\cleanL raw=p/\SzL p L
theorem PIr.below{w w':World}{v:Value}{p:List Mon}{L:Nat}(h:PIr w v p L)(hb:Below w.heap.size w w'):PIr w' v p L:=by
 obtain⟨raw,h1,h2,h3⟩:=h;exact⟨raw,h1.below hb,h2,h3⟩
theorem PIr.vp{w:World}{v:Value}{p:List Mon}{L:Nat}(h:PIr w v p L):VP p:=by
 obtain⟨raw,_,rfl,_⟩:=h;exact Qf1 raw
theorem PIr.szl{w:World}{v:Value}{p:List Mon}{L:Nat}(h:PIr w v p L):SzL p L:=h.choose_spec.2.2
theorem Pol.pre{w:World}{v:Value}{l:List Mon}{L:Nat}(h:Pol w v l)(hs:SzL l L)(hL:L<=1000000)(hn:l.length<=1000000):PRe w v (l.map rawOf):=by
 refine⟨?_,by rw [List.length_map];exact hn⟩;obtain⟨A,n,c,xs,e,h1,h2,h3⟩:=h;refine⟨A,n,c,xs,e,h1,h2,fun i e q hi=>?_⟩;obtain⟨z0,z1,z2,hx,hr⟩:=h3 i e q hi;refine⟨z0,z1,z2,hx,hr.inr ?_ hL⟩;rw [List.getElem?_map]at hi;obtain⟨m,hm,he⟩:=Option.map_eq_some_iff.1 hi;have:=hs m (List.mem_of_getElem? hm);rw [show m.2=q from congrArg Prod.snd he]at this;exact this
theorem Pol.pir{w:World}{v:Value}{p:List Mon}{L:Nat}(h:Pol w v p)(hv:VP p)(hs:SzL p L)(hL:L<=1000000):PIr w v p L:=
 ⟨p.map rawOf,h.pre hs hL (by have:=Qbf hv;omega),Qjp hv,hs⟩
theorem Qgf(v:Value)(p:List Mon)(L:Nat)(w:World)(h:PIr w v p L):Calls prog 75 #[v] w (RetOwnP w p):=by
 obtain⟨raw,h1,rfl,_⟩:=h;exact Qz4 v raw w h1
theorem Qde{c:Co}{L:Nat}(h:SzC c L):SzL (listOf c) L:=fun m hm=>by
 obtain⟨h1,_,h3⟩:=Qb2.1 hm;rw [h3];exact h m.1 h1
theorem Qqk{p:List Mon}{L:Nat}(hp:VP p)(h:SzL p L)(hL:1<=L):SzC (co p) L:=fun e _=>by
 by_cases hh:∃m∈p,m.1=e
 ·obtain⟨m,hm,rfl⟩:=hh
  rw [Qpq hp hm];exact h m hm
 ·rw [Qf0 (fun m hm e'=>hh ⟨m,hm,e'⟩)];exact Qcm L hL
theorem Qi1(v:Value)(q:Rat)(w:World)(h:Inr w v q)(hs:Sz q 200000):Calls prog 49 #[v] w (RetPol w (listOf (constC q))):=by
 obtain⟨z0,Z,zn,zc,Z',zm,ze,rfl⟩:=h.agg;obtain⟨hb1,c1⟩:=blk1 w [.bool z0,.slice Z zn zc,.slice Z' zm ze] 27;have h1:=h.below hb1;have HE:Hid (listOf (addAt (co []) (0,0,0) q)=listOf (constC q)):=hid (Qbr fun e _=>by unfold addAt constC co sumL;simp only [List.foldr_nil];split<;>grind);rw [<-HE.out];have y0:=c1.cell (k:=0) rfl;have y1:=c1.cell (k:=1) rfl;have y2:=c1.cell (k:=2) rfl;go_enter func49,ntmps49;go_wp2_with fail
 refine(Qig _ q _ h1).mono ?_;rintro e2 w2 ⟨v2,rfl,hq2,hb2⟩;have hB2:=bt hb1 hb2;obtain⟨x0,X,xn,xc,X',xm,xe,rfl⟩:=hq2.agg;clear y0 y1 y2 hb2;go_wp2_with fail
 refine(Qu8 (.slice none 0 0) [] (0,0,0) q x0 X X' xn xc xm xe w2 (Pol.nil _ _ _) ⟨fun m hm=>absurd hm (List.not_mem_nil),List.Pairwise.nil⟩ (fun m hm=>absurd hm (List.not_mem_nil)) hq2 hs).mono ?_;rintro e3 w3 ⟨v3,rfl,hp3,hb3⟩;go_wp2_with fail
 go_ret;exact⟨v3,rfl,hp3,bt hB2 hb3⟩
theorem r2_Add(v u:Value)(p q:List Mon)(L:Nat)(w:World)(h:PIr w v p L)(h':PIr w u q L)(hL1:1<=L)(hL:L<=90000):Calls prog 57 #[v,u] w (RetPol w (listOf (addC (co p) (co q)))):=by
 have hvp:=h.vp;have hvq:=h'.vp;have hsp:=h.szl;have hsq:=h'.szl;have hlq:=Qbf hvq;have hz2:SzC (addL (co p) q) 200000:=Qhj (Qqk hvp hsp hL1) hvq hsq (by omega);have HT:=hid h';have HVP:=hid hvp;have HVQ:=hid hvq;have HSQ:=hid hsq;have HSP:=hid hsp;clear hvp hvq hsp hsq;go_enter func57,ntmps57;go_wp2_with fail
 refine(Qgf _ p L _ h).mono ?_;rintro e2 w2 ⟨v2,rfl,hp2,hb2⟩;clear h h';go_wp2_with fail
 refine(Qgf _ q L _ (HT.out.below hb2)).mono ?_;rintro e3 w3 ⟨v3,rfl,hp3,hb3⟩;have hB3:=bt hb2 hb3;have HP:=hid (hp2.pol.below hb3);have HQ:=hid hp3.pol;obtain⟨A3,c3,rfl⟩:=hp3.pol.slice;have HB3:=hid hB3;clear hp2 hp3 hb2 hb3 hB3 HT;go_wp2_with fail
 go_loopw [5,6] (fun out i wr=> ∃k,k<=q.length/\i=.int .i64 (k:Int)/\Pol wr out (listOf (addL (co p) (q.take k)))/\Below w3.heap.size w3 wr) (fun _ i _=>(q.length-intOf i).toNat)
 case atStart=>exact⟨0,zero_le _,rfl,by rw [List.take_zero];show Pol _ _ (listOf (co p));rw [Qbs HVP.out];exact HP.out,Below.refl _ _⟩
 case round=>
  obtain⟨k,hk,rfl,hout,hbb⟩:=hrel;rcases lt_or_ge k q.length with hkn|hkn
  ·obtain⟨m,hm⟩:∃m,q[k]? =some m:=⟨q[k],List.getElem?_eq_getElem hkn⟩
   obtain⟨bq,oq,y0,y1,y2,rfl,hbq,hat,hcoef⟩:=HQ.out.at hm;obtain⟨nb,Ay,ny,cy,By,my,ey,heq⟩:=hcoef.agg;simp only [Value.agg.injEq,Array.mk.injEq,List.cons.injEq,and_true]at heq;obtain⟨rfl,rfl,rfl⟩:=heq;have hmq:m∈q:=List.mem_of_getElem? hm;obtain⟨x0,x1,x2,x3,x4,x5⟩:=hat.below hbb hbq;have hqw:=hcoef.below hbb;have hlt:(k:Int)<(q.length:Int):=(by omega);have HK:=hid hkn;have HM:=hid hm;have HBB:=hid hbb;have HZ:Hid (SzL (listOf (addL (co p) (q.take k))) 200000):=hid (Qde (Qhj (Qqk HVP.out HSP.out hL1) (L:=L) (Qu7 HVQ.out k) (fun m hm=>HSQ.out m (List.mem_of_mem_take hm)) (by omega)));have HSM:=hid ((HSQ.out m hmq).mono (show L<=200000 by omega));have HO:=hid hout;have HQW:=hid hqw;clear hk hkn hm hat hcoef hout hqw hbb hmq;go_wp2_with fail
   refine(Qu8 u5 _ m.1 m.2 nb Ay By ny cy my ey wr HO.out (Qat _) HZ.out HQW.out HSM.out).mono ?_;rintro e6 w6 ⟨v6,rfl,hp6,hb6⟩;clear x0 x1 x2 x3 x4 x5;go_wp2_with fail
   go_roundw
   case rel=>
    refine⟨k+1,by have:=HK.out;omega,congrArg (Value.int _) (by omega),?_,bt HBB.out hb6⟩;rw [List.take_succ_eq_append_getElem HK.out,(List.getElem?_eq_some_iff.1 HM.out).2,Qis];rw [Qj7]at hp6;exact hp6
   case measure=>simp [intOf];have:=HK.out;omega
  ·obtain rfl:k=q.length:=by omega
   rw [List.take_length]at hout;have hlt:¬(q.length:Int)<(q.length:Int):=(by omega);have e1:listOf (addC (co p) (co q))=listOf (addL (co p) q):=Qbr (fun e _=>by
    rw [Qn7];rfl)
   have HO:=hid hout;have HBB:=hid (bt HB3.out hbb);have HE:=hid e1;clear hout hbb e1;go_wp2_with fail
   go_ret;exact⟨_,rfl,by rw [HE.out];exact HO.out,HBB.out⟩
def hits(q:List Mon)(f:Ex)(m:Mon):Bool:=q.any (fun n=>decide (eadd n.1 m.1=f))
theorem Qz5{p q:List Mon}(hp:(p.map (·.1)).Nodup)(f:Ex):p.countP (hits q f)<=q.length:=by
 rw [List.countP_eq_length_filter];have hsub:∀x∈((p.filter (hits q f)).map (fun m:Mon=>((f.1-m.1.1,f.2.1-m.1.2.1,f.2.2-m.1.2.2):Ex))),x∈q.map (·.1):=by
  intro x hx;obtain⟨m,hm,rfl⟩:=List.mem_map.1 hx;have hh:=(List.mem_filter.1 hm).2;obtain⟨n,hn,he⟩:=List.any_eq_true.1 hh;have he:=of_decide_eq_true he;refine List.mem_map.2 ⟨n,hn,?_⟩;rw [<-he];unfold eadd;simp
 have hnd:((p.filter (hits q f)).map (fun m:Mon=>((f.1-m.1.1,f.2.1-m.1.2.1,f.2.2-m.1.2.2):Ex))).Nodup:=by
  have h1:((p.filter (hits q f)).map (·.1)).Nodup:=hp.sublist (List.filter_sublist.map _);rw [List.nodup_iff_pairwise_ne,List.pairwise_map]at h1⊢;refine(List.Pairwise.and_mem.1 h1).imp (fun {a b} h e=>?_);obtain⟨ha,hb,hne⟩:=h;obtain⟨n,_,h2⟩:=List.any_eq_true.1 (List.mem_filter.1 ha).2;obtain⟨n',_,h3⟩:=List.any_eq_true.1 (List.mem_filter.1 hb).2;have h2:=of_decide_eq_true h2;have h3:=of_decide_eq_true h3;unfold eadd at h2 h3;refine hne (Prod.ext ?_ (Prod.ext ?_ ?_))
  ·have:=congrArg Prod.fst e;have a1:=congrArg Prod.fst h2;have a2:=congrArg Prod.fst h3;simp only at this a1 a2;omega
  ·have:=congrArg (fun z:Ex=>z.2.1) e;have a1:=congrArg (fun z:Ex=>z.2.1) h2;have a2:=congrArg (fun z:Ex=>z.2.1) h3;simp only at this a1 a2;omega
  ·have:=congrArg (fun z:Ex=>z.2.2) e;have a1:=congrArg (fun z:Ex=>z.2.2) h2;have a2:=congrArg (fun z:Ex=>z.2.2) h3;simp only at this a1 a2;omega
 have:=hnd.length_le_of_subset hsub
 simpa using this
def SzF(c:Co)(B:Ex->Nat):Prop:=∀e,deg e<=5->Sz (c e) (B e)
theorem Qxc{c:Co}{B:Ex->Nat}(h:SzF c B){q:List Mon}(hq:(q.map (·.1)).Nodup){m:Mon}{L Lq:Nat}(hx:Sz m.2 L)(hl:SzL q Lq):SzF (addM c q m.1 m.2) (fun f=>B f+if hits q f m then Lq+L+1 else 0):=fun f hf=>by
 rcases Qla hq c m.1 m.2 f with⟨n,hn,he,hv⟩|⟨hno,hv⟩
 ·have hh:hits q f m=true:=List.any_eq_true.2 ⟨n,hn,decide_eq_true he⟩
  rw [hv];simp only [hh,if_true];exact(Qmg (h f hf) (Qjv (hl n hn) hx (le_refl _)) (le_refl _)).mono (by omega)
 ·rw [hv];exact(h f hf).mono (Nat.le_add_right _ _)
theorem Qnj{q:List Mon}(hq:(q.map (·.1)).Nodup){L Lq:Nat}(hl:SzL q Lq):∀(p:List Mon) (c:Co) (B:Ex->Nat),SzF c B->SzL p L->SzF (p.foldl (fun c m=>addM c q m.1 m.2) c) (fun f=>B f+p.countP (hits q f)*(Lq+L+1))
 |[],c,B,h,_=>fun f hf=>by simpa using h f hf
 |m::p,c,B,h,hp=>fun f hf=>by
  have h1:=Qxc h hq (hp m (by simp)) hl;have h2:=Qnj hq hl p _ _ h1 (fun x hx=>hp x (by simp [hx])) f hf;refine h2.mono ?_;dsimp only;rw [List.countP_cons];by_cases hh:hits q f m=true
  ·rw [if_pos hh,if_pos hh,Nat.add_mul];omega
  ·simp [hh]
theorem Qsd{p q:List Mon}(hp:VP p)(hq:VP q){L Lq M:Nat}(hl:SzL q Lq)(hlp:SzL p L)(hM:1+q.length*(Lq+L+1)<=M):SzC (mulTo q p) M:=fun f hf=>by
 have h:=Qnj (Qco hq) hl p zeroC (fun _=>1) (fun e _=>Qcm 1 (le_refl _)) hlp f hf;refine h.mono (le_trans (Nat.add_le_add_left (Nat.mul_le_mul_right _ (Qz5 (Qco hp) f)) 1) hM)
theorem Qu9{q:List Mon}(hq:(q.map (·.1)).Nodup)(c:Co)(e:Ex)(x:Rat)(k:Nat)(f:Ex):addM c (q.take k) e x f=c f\/addM c (q.take k) e x f=addM c q e x f:=by
 have hk:((q.take k).map (·.1)).Nodup:=hq.sublist ((List.take_sublist _ _).map _);rcases Qla hk c e x f with⟨n,hn,he,hv⟩|⟨_,hv⟩
 ·right
  rcases Qla hq c e x f with⟨n',hn',he',hv'⟩|⟨hno,_⟩
  ·have h1:n.1=n'.1:=by
    rw [<-he']at he;unfold eadd at he;simp only [Prod.mk.injEq]at he;exact Prod.ext (by omega) (Prod.ext (by omega) (by omega))
   have h2:n=n':=by
    obtain⟨i,hi,rfl⟩:=List.getElem_of_mem (List.mem_of_mem_take hn);obtain⟨i',hi',rfl⟩:=List.getElem_of_mem hn';have hnd:=List.pairwise_iff_getElem.1 (List.nodup_iff_pairwise_ne.1 hq);by_cases hii:i=i'
    ·subst hii;rfl
    ·exfalso
     rcases Nat.lt_or_gt_of_ne hii with h|h
     ·exact hnd i i' (by simpa using hi) (by simpa using hi') h (by simpa using h1)
     ·exact hnd i' i (by simpa using hi') (by simpa using hi) h (by simpa using h1.symm)
   rw [hv,hv',h2]
  ·exact absurd he (hno n (List.mem_of_mem_take hn))
 ·left;exact hv
theorem Qxd{q:List Mon}(hq:VP q){c:Co}{e:Ex}{x:Rat}{M:Nat}(h1:SzC c M)(h2:SzC (addM c q e x) M)(k:Nat):SzC (addM c (q.take k) e x) M:=fun f hf=>by
 rcases Qu9 (Qco hq) c e x k f with h|h
 ·rw [h];exact h1 f hf
 ·rw [h];exact h2 f hf
def exs(e f:Ex)(j:Nat):List Value:=[if 0<j then Value.int .i64 ((comp e 0+comp f 0:Nat):Int)else .int .i64 0,if 1<j then Value.int .i64 ((comp e 1+comp f 1:Nat):Int)else .int .i64 0,if 2<j then Value.int .i64 ((comp e 2+comp f 2:Nat):Int)else .int .i64 0]
theorem Qxe(w:World)(q:List Mon):Pol w (.slice none 0 0) (listOf (mulTo q [])):=by
 have:listOf (mulTo q [])=[]:=by
  show listOf zeroC=[];unfold listOf zeroC;simp
 rw [this];exact Pol.nil _ _ _
structure MulB (w0:World) (g:Nat) (e f:Ex) (j:Nat) (yb:Bool) (yA:Option Addr) (yn yc:Nat) (yB:Option Addr) (ym yd:Nat) (x:Rat) (W:World):Prop where
 cs:Cs W g (exs e f j++[.bool yb,.slice yA yn yc,.slice yB ym yd]) MT
 q:RatQ W (.agg #[.bool yb,.slice yA yn yc,.slice yB ym yd]) x
 below:Below w0.heap.size w0 W
 ge:w0.heap.size<=g
theorem exs_no(e f:Ex)(j:Nat)(yb:Bool)(yA:Option Addr)(yn yc:Nat)(yB:Option Addr)(ym yd:Nat):∀v∈exs e f j++[.bool yb,.slice yA yn yc,.slice yB ym yd],∀x:Nat,v≠ .int .u32 (x:Int):=by
 intro v hv x hx;subst hx;unfold exs at hv;simp only [List.cons_append,List.nil_append,List.mem_cons,List.not_mem_nil,or_false]at hv;rcases hv with h|h|h|h|h|h
 ·split at h<;>cases h
 ·split at h<;>cases h
 ·split at h<;>cases h
 ·cases h
 ·cases h
 ·cases h
theorem At6.exp{w:World}{b o:Nat}{e:Ex}{z3 z4 z5:Value}(h:At6 w b o (.int .i64 (e.1:Int)) (.int .i64 (e.2.1:Int)) (.int .i64 (e.2.2:Int)) z3 z4 z5){j:Nat}(hj:j<3):w.cell? ⟨b,o+j,none⟩=some (.int .i64 (comp e j:Int)):=by
 match j,hj with
 |0,_=>exact h.1
 |1,_=>exact h.2.1
 |2,_=>exact h.2.2.1
theorem Qz6(e f:Ex){j:Nat}(hj:j<3)(zs:List Value):(exs e f j++zs).set j (.int .i64 ((comp e j+comp f j:Nat):Int))=exs e f (j+1)++zs:=by
 match j,hj with
 |0,_=>rfl
 |1,_=>rfl
 |2,_=>rfl
theorem MulB.step{w0:World}{g:Nat}{e f:Ex}{j:Nat}{yb:Bool}{yA:Option Addr}{yn yc:Nat}{yB:Option Addr}{ym yd:Nat}{x:Rat}{W:World}(h:MulB w0 g e f j yb yA yn yc yB ym yd x W)(hj:j<3):MulB w0 g e f (j+1) yb yA yn yc yB ym yd x (W.setCell ⟨g,j,none⟩ (.int .i64 ((comp e j+comp f j:Nat):Int))):=by
 refine⟨?_,h.q.set1c h.cs (exs_no _ _ _ _ _ _ _ _ _ _) _,h.below.setCell (p:=⟨g,j,none⟩) h.ge _,h.ge⟩;have:=h.cs.set j (.int .i64 ((comp e j+comp f j:Nat):Int));rw [Qz6 e f hj]at this;exact this
theorem MulB.keep{w0:World}{g:Nat}{e f:Ex}{j:Nat}{yb:Bool}{yA:Option Addr}{yn yc:Nat}{yB:Option Addr}{ym yd:Nat}{x:Rat}{W W':World}(h:MulB w0 g e f j yb yA yn yc yB ym yd x W)(hb:Below W.heap.size W W'):MulB w0 g e f j yb yA yn yc yB ym yd x W':=⟨h.cs.below hb h.cs.lt,h.q.below hb,bt h.below hb,h.ge⟩
theorem MulB.cell{w0:World}{g:Nat}{e f:Ex}{j:Nat}{yb:Bool}{yA:Option Addr}{yn yc:Nat}{yB:Option Addr}{ym yd:Nat}{x:Rat}{W:World}(h:MulB w0 g e f j yb yA yn yc yB ym yd x W)(hj:j<3):∃v,W.cell? ⟨g,j,none⟩=some v:=by
 match j,hj with
 |0,_=>exact⟨_,h.cs.cell (k:=0) rfl⟩
 |1,_=>exact⟨_,h.cs.cell (k:=1) rfl⟩
 |2,_=>exact⟨_,h.cs.cell (k:=2) rfl⟩
theorem MulB.made{w0 W:World}{g:Nat}(e f:Ex){yb:Bool}{yA:Option Addr}{yn yc:Nat}{yB:Option Addr}{ym yd:Nat}{x:Rat}(hc:Cs W g [.int .i64 0,.int .i64 0,.int .i64 0,.bool false,.slice none 0 0,.slice none 0 0] MT)(hq:RatQ W (.agg #[.bool yb,.slice yA yn yc,.slice yB ym yd]) x)(hb:Below w0.heap.size w0 W)(hg:w0.heap.size<=g):
 MulB w0 g e f 0 yb yA yn yc yB ym yd x (setL W g 0 [.int .i64 0,.int .i64 0,.int .i64 0,.bool yb,.slice yA yn yc,.slice yB ym yd]):=
 ⟨hc.setL _ rfl,hq.setL hc (by simp) _,Qbu hg _ _ hb,hg⟩
theorem MulB.full{w0 W:World}{g:Nat}{e f:Ex}{yb:Bool}{yA:Option Addr}{yn yc:Nat}{yB:Option Addr}{ym yd:Nat}{x:Rat}(h:MulB w0 g e f 3 yb yA yn yc yB ym yd x W):Cs W g [.int .i64 ((eadd e f).1:Int),.int .i64 ((eadd e f).2.1:Int),.int .i64 ((eadd e f).2.2:Int),.bool yb,.slice yA yn yc,.slice yB ym yd] MT:=h.cs
theorem r2_Mul(v u:Value)(p q:List Mon)(L Lq M:Nat)(w:World)(h:PIr w v p L)(h':PIr w u q Lq)(hL:L<=90000)(hLq:Lq<=90000)(hM:M<=200000)(hz:∀i,SzC (mulTo q (p.take i)) M):Calls prog 59 #[v,u] w (RetPol w (listOf (mulC (co p) (co q)))):=by
 have HVP:=hid h.vp;have HVQ:=hid h'.vp;have hlp:=Qbf h.vp;have hlq:=Qbf h'.vp;have HSP:=hid h.szl;have HSQ:=hid h'.szl;have HT:=hid h';have HZ:=hid hz;clear hz;go_enter func59,ntmps59;go_wp2_with fail
 refine(Qgf _ p L _ h).mono ?_;rintro e2 w2 ⟨v2,rfl,hp2,hb2⟩;clear h h';go_wp2_with fail
 refine(Qgf _ q Lq _ (HT.out.below hb2)).mono ?_;rintro e3 w3 ⟨v3,rfl,hp3,hb3⟩;have HP:=hid (hp2.pol.below hb3);have HQ:=hid hp3.pol;obtain⟨A2,cp,rfl⟩:=hp2.pol.slice;obtain⟨A3,cq,rfl⟩:=hp3.pol.slice;have HB3:=hid (bt hb2 hb3);clear hp2 hp3 hb2 hb3 HT;go_wp2_with fail
 go_loopw [5,6] (fun out i wo=> ∃i0,i0<=p.length/\i=.int .i64 (i0:Int)/\Pol wo out (listOf (mulTo q (p.take i0)))/\Below w3.heap.size w3 wo) (fun _ i _=>(p.length-intOf i).toNat)
 case atStart=>exact⟨0,zero_le _,rfl,by rw [List.take_zero];exact Qxe _ _,Below.refl _ _⟩
 case round=>
  obtain⟨i0,hi0,rfl,hout,hbb⟩:=hrel;obtain⟨wo,rfl⟩:∃wo,wo=wr:=⟨_,rfl⟩;rcases lt_or_ge i0 p.length with hin|hin
  ·obtain⟨m,hm⟩:∃m,p[i0]? =some m:=⟨p[i0],List.getElem?_eq_getElem hin⟩
   obtain⟨bp,op,zp0,zp1,zp2,rfl,hbp,hatp,hcp⟩:=HP.out.at hm;have hlti:(i0:Int)<(p.length:Int):=(by omega);have HI:=hid hin;have HMM:=hid hm;have HBO:=hid hbb;have HOO:=hid hout;have HATP:=hid hatp;have HBP:=hid hbp;have HCP0:=hid hcp;have HZP:=hid ((HSP.out m (List.mem_of_getElem? hm)).mono hL);have HZ1:Hid (SzC (mulTo q (p.take i0)) M):=hid (HZ.out i0);have HZ2:Hid (SzC (addM (mulTo q (p.take i0)) q m.1 m.2) M):=hid (by
    have:=HZ.out (i0+1)
    rwa [List.take_succ_eq_append_getElem hin,(List.getElem?_eq_some_iff.1 hm).2,Qgs]at this)
   obtain⟨cc,hcc⟩:∃cc,mulTo q (p.take i0)=cc:=⟨_,rfl⟩;rw [hcc]at HZ1 HZ2 HOO;have HCC:=hid hcc;clear hi0 hin hm hatp hcp hbp hbb hout hcc;go_wp2_with fail
   go_loopw [5,7] (fun out i wr=> ∃k,k<=q.length/\i=.int .i64 (k:Int)/\Pol wr out (listOf (addM cc (q.take k) m.1 m.2))/\Below wo.heap.size wo wr) (fun _ i _=>(q.length-intOf i).toNat)
   case atStart=>exact⟨0,zero_le _,rfl,by rw [List.take_zero];exact HOO.out,Below.refl _ _⟩
   case round=>
    obtain⟨k,hk,rfl,hout,hbb⟩:=hrel;obtain⟨wk,rfl⟩:∃wk,wk=wr:=⟨_,rfl⟩;rcases lt_or_ge k q.length with hkn|hkn
    ·obtain⟨n,hn⟩:∃n,q[k]? =some n:=⟨q[k],List.getElem?_eq_getElem hkn⟩
     obtain⟨bq,oq,zq0,zq1,zq2,rfl,hbq,hatq,hcq⟩:=HQ.out.at hn;have hltk:(k:Int)<(q.length:Int):=(by omega);have HK:=hid hkn;have HN:=hid hn;have HBK:=hid hbb;have HBW:=hid (bt HBO.out hbb.drew);have HO:=hid (hout.below (Below.refl _ _).drew);have HAP:Hid (At6 wk.drew bp (op+i0*6) _ _ _ _ _ _):=hid (HATP.out.below HBW.out HBP.out);have HLP:Hid (bp<wk.drew.heap.size):=hid (lt_of_lt_of_le HBP.out HBW.out.size);have HAQ:Hid (At6 wk.drew bq (oq+k*6) _ _ _ _ _ _):=hid (hatq.below HBW.out hbq);have HLQ:Hid (bq<wk.drew.heap.size):=hid (lt_of_lt_of_le hbq HBW.out.size);have HCP:=hid (HCP0.out.below HBW.out);have HCQ:=hid (hcq.below HBW.out);have HDM:Hid (∀j,comp m.1 j<=5):=hid (fun j=>Qu2 (HVP.out.1 m (List.mem_of_getElem? HMM.out)).1 j);have HDN:Hid (∀j,comp n.1 j<=5):=hid (fun j=>Qu2 (HVQ.out.1 n (List.mem_of_getElem? hn)).1 j);have HZQ:=hid ((HSQ.out n (List.mem_of_getElem? hn)).mono hLq);have HZO:Hid (SzL (listOf (addM cc (q.take k) m.1 m.2)) 200000):=hid (Qde ((Qxd HVQ.out HZ1.out HZ2.out k).mono hM));clear hk hkn hn hatq hcq hbq hbb hout
     go_upto_region 9 with(fail)
     refine Qag 13 [26,27,28,29,30,31,32,33,34,35,36,37,8] [.val (.slice (some ⟨bp,op,none⟩) p.length cp),.val (.int .i64 (i0:Int)),.val (.pointer (some ⟨bp,op+i0*6,none⟩)),.val (.pointer (some ⟨bp,op+i0*6+3,none⟩)),.val (.agg #[zp0,zp1,zp2]),.val (.slice (some ⟨bq,oq,none⟩) q.length cq),.val (.int .i64 (k:Int)),.val (.pointer (some ⟨bq,oq+k*6,none⟩)),.val (.pointer (some ⟨bq,oq+k*6+3,none⟩)),.val (.agg #[zq0,zq1,zq2]),.st (fun w a=>RatQ w a (m.2*n.2)),.st (fun w a=>MonV ((0,0,0),m.2*n.2) w a),.blk (wk.drew.heap.size) [.int .i64 0,.int .i64 0,.int .i64 0,.bool false,.slice none 0 0,.slice none 0 0] MT] (by kernel_rfl) (by kernel_rfl) (by kernel_rfl) (by kernel_rfl) ?stepm 1 (by kernel_rfl) _ rfl ?finm
     case stepm=>
      intro i hi oi ho f wx hB hdep K hK;simp only [frontAct,zf1,zf2,zf3,zf4,zf5]at hK⊢;obtain⟨x0,x1,x2,x3,x4,x5⟩:=HAP.out.below hB HLP.out;obtain⟨u0,u1,u2,u3,u4,u5⟩:=HAQ.out.below hB HLQ.out;obtain rfl|rfl|rfl|rfl|rfl|rfl|rfl|rfl|rfl|rfl|rfl|rfl|rfl:=cs13 hi;all_goals
       obtain rfl:=Option.some.inj ho;simp only [Act.put,zf3,zf4,zf5]at hK
      rotate_left 10
      ·simp [gOf6,Sq.holds,Region.binds]at hdep
       simp only [hdep]at hK⊢;go_simp;refine(r_Mul _ _ m.2 n.2 wx ((HCP.out.below hB).inr HZP.out (by omega)) ((HCQ.out.below hB).inr HZQ.out (by omega)) (HZP.out.mono (by omega)) (HZQ.out.mono (by omega))).mono ?_;rintro e0 w' ⟨val,rfl,hr,hb⟩;exact hK val w' (gs6 rfl (fun w2 h2=>hr.below h2)) hb (bt hB hb) (nb6 rfl rfl)
      ·have e36:=ds6 (hdep ⟨10,.data⟩ (by simp) rfl) rfl
       replace e36:=(show RatQ wx (f 36) (m.2*n.2)from e36);generalize f 36=f36 at*
       obtain⟨yb,yA,yn,yc,yB,ym,yd,rfl⟩:=e36.agg;go_simp;exact hK _ wx (gs6 rfl (fun w2 h2=>⟨_,_,_,_,_,_,_,rfl,RatQ.below e36 h2⟩)) (Below.refl _ _) hB (nb6 rfl rfl)
      ·have hbl:=blk1 wx [.int .i64 0,.int .i64 0,.int .i64 0,.bool false,.slice none 0 0,.slice none 0 0] MT
       go_simp;exact hK _ _ (gb6 rfl hB.size hbl.2) hbl.1 (bt hB hbl.1) (fun _=>⟨_,rfl,le_refl _⟩)
      all_goals simp [gOf6,Sq.holds,Region.binds]at hdep
      all_goals try simp only [hdep]at hK⊢
      all_goals go_simp
      all_goals exact hK _ wx (gv6 rfl) (Below.refl _ _) hB (nb6 rfl rfl)
     case finm=>
      intro f wx hB hG hne;have e37:MonV ((0,0,0),m.2*n.2) wx (f 37):=ds6 (hG 11 (by decide)) rfl;obtain⟨g,e8,hgl,cs⟩:=db6 (a:=f 8) (hG 12 (by decide)) rfl;clear hG hne;simp only [frontAct,zf1,zf2,zf3,zf4,zf5];generalize f 37=f37 at*
      generalize f 8=f8 at*;subst e8;obtain⟨yb,yA,yn,yc,yB,ym,yd,rfl,hyq⟩:=e37;have HRC:=hid hyq;have HCS:=hid cs;have HBR9:=hid hB;have HGL:=hid hgl;obtain⟨a0,a1,a2,a3,a4,a5⟩:=cs.c6;have f0:=cs.frozen 0;have f1:=cs.frozen 1;have f2:=cs.frozen 2;have f3:=cs.frozen 3;have f4:=cs.frozen 4;have f5:=cs.frozen 5;clear hyq cs hgl hB;refine wpAny_ready (rs:=[13]) (by kernel_rfl) (by simp) ?_;refine AllReady.cons rfl (fun K hK=>?_) AllReady.nil;have HQ:=hid hK;clear hK;go_simp;refine HQ.out _ _ ?_;clear HQ K;refine wpAny_done (by kernel_rfl) ?_ _;clear a0 a1 a2 a3 a4 a5 f0 f1 f2 f3 f4 f5;have HMI:=hid (MulB.made m.1 n.1 HCS.out HRC.out HBR9.out HGL.out);go_wp2_with fail
      go_loopw [9] (fun jv wj=> ∃j:Nat,j<=3/\jv=.int .i64 (j:Int)/\MulB wk.drew g m.1 n.1 j yb yA yn yc yB ym yd (m.2*n.2) wj) (fun jv _=>(3-intOf jv).toNat)
      case atStart=>exact⟨0,by omega,rfl,HMI.out⟩
      case round=>
       obtain⟨j,hj,rfl,hmb⟩:=hrel;obtain⟨wj,rfl⟩:∃wj,wj=wr:=⟨_,rfl⟩;rcases lt_or_ge j 3 with hj3|hj3
       ·have HJ3:=hid hj3
        have HJ4:Hid ((j:Int)<3):=hid (by omega);have HMB:=hid (hmb.keep (Below.refl _ _).drew);have HAP2:Hid (At6 wj.drew bp (op+i0*6) _ _ _ _ _ _):=hid (HAP.out.below HMB.out.below HLP.out);have HLP2:Hid (bp<wj.drew.heap.size):=hid (lt_of_lt_of_le HLP.out HMB.out.below.size);have HAQ2:Hid (At6 wj.drew bq (oq+k*6) _ _ _ _ _ _):=hid (HAQ.out.below HMB.out.below HLQ.out);have HLQ2:Hid (bq<wj.drew.heap.size):=hid (lt_of_lt_of_le HLQ.out HMB.out.below.size);have HWR:Hid (IntKind.i64.wrap ((comp m.1 j:Int)+(comp n.1 j:Int))=(comp m.1 j:Int)+(comp n.1 j:Int)):=hid (IntWalk.i64_in _ (by have:=HDM.out j;have:=HDN.out j;omega));have hjl:(j:Int)<3:=(by omega);clear hj hj3 hmb
        go_upto_region 13 with(fail)
        refine Qag 18 [42,43,44,45,46,47,48,49,50,51,52,53,54,55,56,57,58,59] [.val (.int .i64 (j:Int)),.val (.slice (some ⟨bp,op,none⟩) p.length cp),.val (.int .i64 (i0:Int)),.val (.int .i64 (j:Int)),.val (.pointer (some ⟨bp,op+i0*6,none⟩)),.val (.pointer (some ⟨bp,op+i0*6,none⟩)),.val (.pointer (some ⟨bp,op+i0*6+j,none⟩)),.val (.int .i64 (comp m.1 j:Int)),.val (.slice (some ⟨bq,oq,none⟩) q.length cq),.val (.int .i64 (k:Int)),.val (.int .i64 (j:Int)),.val (.pointer (some ⟨bq,oq+k*6,none⟩)),.val (.pointer (some ⟨bq,oq+k*6,none⟩)),.val (.pointer (some ⟨bq,oq+k*6+j,none⟩)),.val (.int .i64 (comp n.1 j:Int)),.val (.int .i64 ((comp m.1 j:Int)+(comp n.1 j:Int))),.val (.pointer (some ⟨g,0,none⟩)),.val (.pointer (some ⟨g,j,none⟩))] (by kernel_rfl) (by kernel_rfl) (by kernel_rfl) (by kernel_rfl) ?stepj 1 (by kernel_rfl) _ rfl ?finj
        case stepj=>
         intro i hi oi ho f wx hB hdep K hK;simp only [frontAct,zf1,zf2,zf3,zf4,zf5]at hK⊢;have xj:=(HAP2.out.below hB HLP2.out).exp HJ3.out;have uj:=(HAQ2.out.below hB HLQ2.out).exp HJ3.out;have hj3:=HJ4.out;obtain rfl|rfl|rfl|rfl|rfl|rfl|rfl|rfl|rfl|rfl|rfl|rfl|rfl|rfl|rfl|rfl|rfl|rfl:=cs18 hi;all_goals
          obtain rfl:=Option.some.inj ho;simp only [Act.put,zf3,zf4,zf5]at hK
         rotate_left 15
         have hw1:=HWR.out;rotate_left 3
         all_goals simp [gOf6,Sq.holds,Region.binds]at hdep
         all_goals try simp only [hdep]at hK⊢
         all_goals go_simp
         all_goals exact hK _ wx (gv6 rfl) (Below.refl _ _) hB (nb6 rfl rfl)
        case finj=>
         intro f wx hB hG hne;have e57:=dv6 (a:=f 57) (hG 15 (by decide)) rfl;have e59:=dv6 (a:=f 59) (hG 17 (by decide)) rfl;clear hG hne;simp only [frontAct,zf1,zf2,zf3,zf4,zf5];generalize f 57=f57 at*;subst e57;generalize f 59=f59 at*;subst e59;have hmb:=HMB.out.keep hB;have HEND:=hid (hmb.step HJ3.out);obtain⟨vj,hvj⟩:=hmb.cell HJ3.out;have hfz:=hmb.cs.frozen j;clear hmb hB;refine wpAny_ready (rs:=[18]) (by kernel_rfl) (by simp) ?_;refine AllReady.cons rfl (fun K hK=>?_) AllReady.nil;have HQ:=hid hK;clear hK;go_simp;refine HQ.out _ _ ?_;clear HQ K;refine wpAny_done (by kernel_rfl) ?_ _;go_wp2_with fail
         go_roundw
         case rel=>exact⟨j+1,HJ3.out,congrArg (Value.int _) (by omega),HEND.out⟩
         case measure=>simp [intOf];have:=HJ3.out;omega
       ·obtain rfl:j=3:=by omega
        have hjl:¬((3:Nat):Int)<3:=(by omega);have HB2:=hid hmb.below;have hfull:=hmb.full;obtain⟨a0,a1,a2,a3,a4,a5⟩:=hfull.c6;have HQM:=hid hmb.q;have HO3:=hid (HO.out.below hmb.below);clear hmb hfull hj hj3;go_wp2_with fail
        refine(Qu8 u5 _ (eadd m.1 n.1) (m.2*n.2) yb yA yB yn yc ym yd _ HO3.out (Qat _) HZO.out HQM.out ((Qjv HZP.out HZQ.out (le_refl _)).mono (by omega))).mono ?_;rintro e6 w6 ⟨v6,rfl,hp6,hb6⟩;clear a0 a1 a2 a3 a4 a5;have HEND:=hid (And.intro hp6 ((HBK.out.drew.trans (HB2.out.mono HBK.out.size)).trans (hb6.mono (le_trans HBK.out.size HB2.out.size))));clear hp6 hb6;go_wp2_with fail
        go_roundw
        case rel=>
         refine⟨k+1,HK.out,congrArg (Value.int _) (by omega),?_,HEND.out.2⟩;rw [List.take_succ_eq_append_getElem HK.out,(List.getElem?_eq_some_iff.1 HN.out).2,Qiq,Qfy,Rat.mul_comm n.2];have h9:=HEND.out.1;rw [Qj7]at h9;exact h9
        case measure=>simp [intOf];have:=HK.out;omega
    ·obtain rfl:k=q.length:=by omega
     rw [List.take_length]at hout;have hltk:¬(q.length:Int)<(q.length:Int):=(by omega);have HEND:=hid (And.intro hout (bt HBO.out hbb));clear hout hbb;go_wp2_with fail
     go_roundw
     case rel=>
      refine⟨i0+1,HI.out,congrArg (Value.int _) (by omega),?_,HEND.out.2⟩;rw [List.take_succ_eq_append_getElem HI.out,(List.getElem?_eq_some_iff.1 HMM.out).2,Qgs,HCC.out];exact HEND.out.1
     case measure=>simp [intOf];have:=HI.out;omega
  ·obtain rfl:i0=p.length:=by omega
   rw [List.take_length]at hout;have hlti:¬(p.length:Int)<(p.length:Int):=(by omega);have HE:Hid (listOf (mulC (co p) (co q))=listOf (mulTo q p)):=hid (Qbr (fun f hf=>by rw [Qit,Qh9 HVP.out HVQ.out hf]));have HEND:=hid (And.intro hout (bt HB3.out hbb));clear hout hbb;go_wp2_with fail
   go_ret;exact⟨_,rfl,by rw [HE.out];exact HEND.out.1,HEND.out.2⟩
theorem Qnk(x:Rat):(listOf (constC x)).length<=56:=Qbf (Qat _)
theorem Qdf{x:Rat}{L:Nat}(h:Sz x L)(hL:1<=L):SzL (listOf (constC x)) L:=Qde (Qm3 h hL)
theorem Qlo(x:Rat):co (listOf (constC x))=constC x:=Qa4 (Qh8 x)
theorem Qxf(v:Value)(z:Value)(p:List Mon)(x:Rat)(L Lx:Nat)(w:World)(h:PIr w v p L)(hx:Inr w z x)(sx:Sz x Lx)(hL1:1<=Lx)(hL:57*(Lx+L+1)<=200000):Calls prog 62 #[v,z] w (RetPol w (listOf (mulC (co p) (constC x)))):=by
 obtain⟨z0,Z,zn,zc,Z',zm,ze,rfl⟩:=hx.agg;obtain⟨hb1,c1⟩:=blk1 w [.bool z0,.slice Z zn zc,.slice Z' zm ze] 27;have hx1:=hx.below hb1;have h1:=h.below hb1;have HH:=hid h1;have y0:=c1.cell (k:=0) rfl;have y1:=c1.cell (k:=1) rfl;have y2:=c1.cell (k:=2) rfl;clear h h1 hx;go_enter func62,ntmps62;go_wp2_with fail
 refine(Qi1 _ x _ hx1 (sx.mono (by omega))).mono ?_;rintro e2 w2 ⟨v2,rfl,hp2,hb2⟩;clear y0 y1 y2 hx1;have hB2:=bt hb1 hb2;have hvp:=HH.out.vp;have hsp:=HH.out.szl;go_wp2_with fail
 refine(r2_Mul v v2 p (listOf (constC x)) L Lx 200000 w2 (HH.out.below hb2) (hp2.pir (Qat _) (Qdf sx hL1) (by omega)) (by omega) (by omega) (le_refl _) (fun i=>Qsd (Qu7 hvp i) (Qat _) (Qdf sx hL1) (fun m hm=>hsp m (List.mem_of_mem_take hm)) (by
  have:=Nat.mul_le_mul_right (Lx+L+1) (Qnk x);omega))).mono ?_
 rintro e3 w3 ⟨v3,rfl,hp3,hb3⟩;rw [Qlo]at hp3;go_wp2_with fail
 go_ret;exact⟨v3,rfl,hp3,bt hB2 hb3⟩
theorem Pol.setL{w:World}{v:Value}{l:List Mon}(h:Pol w v l){g k:Nat}{ls:List Value}{t:TypeId}(hr:Cs w g ls t)(hl:∀v∈ls,(∀x:Nat,v≠ .int .u32 (x:Int))/\∀x:Int,v≠ .int .i64 x)(us:List Value):Pol (Go.Proofs.YthbhgelncdnmgaaGreatDoor.setL w g k us) v l:=by
 obtain⟨A,n,c,xs,rfl,hrd,hlen,hat⟩:=h;refine⟨A,n,c,xs,rfl,⟨hrd.len,hrd.cap,fun hn=>?_⟩,hlen,fun i e q hi=>?_⟩
 ·obtain⟨b,o,rfl,hb,hc⟩:=hrd.cells hn
  refine⟨b,o,rfl,by rw [Qfu];exact hb,?_⟩;have hne:b≠g:=by
   rintro rfl;obtain⟨⟨e,q⟩,h0⟩:∃m,(l.map rawOf)[0]? =some m:=⟨_,List.getElem?_eq_getElem (by have:=hrd.len;omega)⟩;obtain⟨z0,z1,z2,hx,_⟩:=hat 0 e q h0;have hc0:=hc 0 _ hx 0 _ rfl;rw [cell_of_row w b _ _ _ _ hr,List.getElem?_toArray]at hc0;exact(hl _ (List.mem_of_getElem? hc0)).2 _ rfl
  intro i x hx j u hu;have h1:=hc i x hx j u hu;unfold World.cell? at h1⊢;simp only []at h1⊢;rw [Qi0 hne us k w];exact h1
 ·obtain⟨z0,z1,z2,hx,hq⟩:=hat i e q hi
  exact⟨z0,z1,z2,hx,hq.setL hr (fun v hv=>(hl v hv).1) us⟩
abbrev A9(z:Nat->Value):List Value:=[z 0,z 1,z 2,z 3,z 4,z 5,z 6,z 7,z 8]
theorem A9.at{w:World}{g:Nat}{z:Nat->Value}{t:TypeId}(h:Cs w g (A9 z) t){i:Nat}(hi:i<3):w.cell? ⟨g,i*3,none⟩=some (z (i*3))/\w.cell? ⟨g,i*3+1,none⟩=some (z (i*3+1))/\w.cell? ⟨g,i*3+2,none⟩=some (z (i*3+2)):=by
 match i,hi with
 |0,_=>exact⟨h.cell rfl,h.cell rfl,h.cell rfl⟩
 |1,_=>exact⟨h.cell rfl,h.cell rfl,h.cell rfl⟩
 |2,_=>exact⟨h.cell rfl,h.cell rfl,h.cell rfl⟩
abbrev U8:TypeId:=5
theorem Cs.kept{w w':World}{g b:Nat}{l:List Value}{t:TypeId}(h:Cs w g l t)(hk:Lib.OthersKept U8 (some b) w w')(hne:g≠b)(ht:t≠U8):Cs w' g l t:=
 hk g _ h (fun e=>hne (Option.some.inj e)) (fun c fz e=>by cases e;exact ht rfl)
end Go.Proofs.YthbhgelncdnmgaaGreatDoor
