import Derived.Test.YthbhgelncdnmgaaGreatDoorZ38
import Derived.Test.YthbhgelncdnmgaaGreatDoorZ40
import Derived.Test.YthbhgelncdnmgaaGreatDoorZ41
set_option linter.unusedVariables false
set_option linter.unusedSimpArgs false
set_option maxRecDepth 20000
set_option maxHeartbeats 4000000
namespace Go.Proofs.YthbhgelncdnmgaaGreatDoor
open Go.Proofs.Tryz
open Lib (hid)
open Nat (zero_le)
open Go.RowKit
variable {E:Rg->World->Value->Value->Value->Prop}
def IntR(w:World)(l:List Int)(A:Option Addr)(n c:Nat):Prop:=Rd w (l.map fun x=>Value.int .i64 x) A n c
theorem IntR.below{w w':World}{l:List Int}{A:Option Addr}{n c:Nat}(h:IntR w l A n c)(hb:Below w.heap.size w w'):IntR w' l A n c:=Rd.below h hb
theorem IntR.len{w:World}{l:List Int}{A:Option Addr}{n c:Nat}(h:IntR w l A n c):n=l.length:=by rw [Rd.len h,List.length_map]
theorem IntR.at_{w:World}{l:List Int}{A:Option Addr}{n c:Nat}(h:IntR w l A n c){k:Nat}(hk:k<n):∃b o x,A=some ⟨b,o,none⟩/\b<w.heap.size/\l[k]? =some x/\w.cell? ⟨b,o+k,none⟩=some (.int .i64 x):=by
 obtain⟨b,o,v,hA,hb,hv,hc⟩:=Rd.at_ h hk;rw [List.getElem?_map]at hv;obtain⟨x,hx,rfl⟩:=Option.map_eq_some_iff.1 hv;exact⟨b,o,x,hA,hb,hx,hc⟩
def okI(x:Int):Bool:=decide (1<=x) && decide (x<=5)
theorem Qw6{k:Int}{l:List Int}(h:k≠6):(ringOf k l).isSome=(okI k && decide (l.length=0)):=by
 unfold ringOf okI;rw [if_neg h];by_cases h1:1<=k/\k<=5/\l=[]
 ·rw [if_pos h1,decide_eq_true h1.1,decide_eq_true h1.2.1,h1.2.2];rfl
 ·rw [if_neg h1]
  show false=_;symm;rw [Bool.eq_false_iff];intro hh;simp only [Bool.and_eq_true,decide_eq_true_eq]at hh;exact h1 ⟨hh.1.1,hh.1.2,List.eq_nil_of_length_eq_zero hh.2⟩
theorem Qu0{l:List Int}:(ringOf 6 l).isSome=(decide (2<=l.length/\l.length<=3) && l.all okI):=by
 unfold ringOf;rw [if_pos rfl];by_cases h1:2<=l.length/\l.length<=3
 ·by_cases h2:l.all okI=true
  ·rw [if_pos ⟨h1.1,h1.2,h2⟩,decide_eq_true h1,h2];rfl
  ·rw [if_neg (fun h=>h2 h.2.2)]
   rw [Bool.not_eq_true]at h2;rw [h2,Bool.and_false];rfl
 ·rw [if_neg (fun h=>h1 ⟨h.1,h.2.1⟩),decide_eq_false h1];rfl
theorem Qu1(k:Int)(l:List Int)(A:Option Addr)(n c:Nat)(w:World)(V:Bool)(h:IntR w l A n c)(H:Hid ((ringOf k l).isSome=V)):Calls prog 12 #[.agg #[.int .i64 k,.slice A n c]] w (RetV w (.bool V)):=by
 obtain⟨hb0,c1⟩:=blk1 w [.int .i64 k,.slice A n c] 24;have HN:=hid h.len;have HR:=hid h;clear h;go_enter func12,ntmps12;by_cases h6:k=6
 ·subst h6
  have HE:Hid ((decide (2<=l.length/\l.length<=3) && l.all okI)=V):=hid (by rw [<-H.out,Qu0]);clear H;by_cases h2:n<2
  ·replace HE:Hid (false=V):=hid (by rw [<-HE.out,decide_eq_false (by have:=HN.out;omega)];rfl)
   have h2':(n:Int)<2:=(by omega);go_wp2_with fail
   have:=HE.out;subst this;go_ret;exact⟨rfl,hb0⟩
  ·have h2':¬(n:Int)<2:=by omega
   by_cases h3:3<n
   ·replace HE:Hid (false=V):=hid (by rw [<-HE.out,decide_eq_false (by have:=HN.out;omega)];rfl)
    have h3':(3:Int)<(n:Int):=(by omega);go_wp2_with fail
    have:=HE.out;subst this;go_ret;exact⟨rfl,hb0⟩
   ·have h3':¬(3:Int)<(n:Int):=by omega
    replace HE:Hid (l.all okI=V):=hid (by rw [<-HE.out,decide_eq_true (by have:=HN.out;omega),Bool.true_and]);have HL3:=hid h3;go_wp2_with fail
    have HB:=hid hb0;clear hb0
    go_loopw [30] (fun i wr=> ∃j:Nat,j<=n/\i=.int .i64 (j:Int)/\Below w.heap.size w wr/\Hid (∀(i:Nat) (x:Int),i<j->l[i]? =some x->okI x=true)) (fun i _=>(n-intOf i).toNat)
    case atStart=>exact⟨0,zero_le _,rfl,HB.out,fun i x hi=>absurd hi (Nat.not_lt_zero _)⟩
    case round=>
     obtain⟨j,hj,rfl,hb,HO⟩:=hrel;have HBr:=hid hb;by_cases hjn:j<n
     ·obtain⟨b,o,x,rfl,hbq,hx,hc⟩:=HR.out.at_ hjn
      have hlt:(j:Int)<(n:Int):=(by omega);have hw1:IntKind.i64.wrap ((j:Int)+1)=(j:Int)+1:=IntWalk.i64_in _ (by have:=HL3.out;omega);have hcw:wr.cell? ⟨b,o+j,none⟩=some (.int .i64 x):=(World.cell?_of_block (w:=w) (hb.block b hbq)).trans hc;obtain⟨V1,hV1⟩:∃V1,okI x=V1:=⟨_,rfl⟩;have HX:=hid hx;have HV1:Hid ((decide (1<=x) && decide (x<=5))=V1):=hid hV1;have HK:=hid hjn;clear hb hc hx hV1 hbq hjn;go_wp2_with fail
      refine(Qep x V1 _ HV1).mono ?_;rintro e w1 ⟨rfl,hb1⟩;have HB1:=hid (bt HBr.out hb1);clear hb1;cases V1
      ·have HF:Hid (false=V):=hid (by
        rw [<-HE.out];symm;rw [Bool.eq_false_iff];intro hh;have h1:=List.all_eq_true.1 hh x (List.mem_of_getElem? HX.out);have h2:okI x=false:=HV1.out;rw [h2]at h1;cases h1)
       go_wp2_with fail
       have:=HF.out;subst this;go_ret;exact⟨rfl,HB1.out⟩
      ·go_wp2_with fail
       go_roundw
       case rel=>
        refine⟨j+1,HK.out,congrArg (Value.int _) (by omega),HB1.out,fun i y hi hy=>?_⟩;rcases Nat.lt_or_ge i j with hij|hij
        ·exact HO.out i y hij hy
        ·obtain rfl:i=j:=by omega
         rw [HX.out]at hy;obtain rfl:=Option.some.inj hy;exact HV1.out
       case measure=>simp [intOf];have:=HK.out;omega
     ·have HF:Hid (true=V):=hid (by
       rw [<-HE.out];symm;refine List.all_eq_true.2 (fun x hx=>?_);obtain⟨i,hi⟩:=List.mem_iff_getElem?.1 hx;have:=(List.getElem?_eq_some_iff.1 hi).1;exact HO.out i x (by have:=HN.out;omega) hi)
      have hlt:¬(j:Int)<(n:Int):=(by omega);clear hb HO;go_wp2_with fail
      have:=HF.out;subst this;go_ret;exact⟨rfl,HBr.out⟩
 ·have HE:Hid ((okI k && decide (l.length=0))=V):=hid (by rw [<-H.out,Qw6 h6])
  clear H;have g6:(k !=6)=true:=by simpa using h6
  obtain⟨V1,hV1⟩:∃V1,okI k=V1:=⟨_,rfl⟩;have HV1:Hid ((decide (1<=k) && decide (k<=5))=V1):=hid hV1;rw [hV1]at HE;clear hV1;go_wp2_with fail
  refine(Qep k V1 _ HV1).mono ?_;rintro e w1 ⟨rfl,hb1⟩;replace hb0:=bt hb0 hb1;replace c1:=c1.below hb1 c1.lt;clear hb1;cases V1
  ·replace HE:Hid (false=V):=HE
   go_wp2_with fail
   have:=HE.out;subst this;go_ret;exact⟨rfl,hb0⟩
  ·have a1:=c1.cell (k:=1) rfl
   by_cases hn:n=0
   ·replace HE:Hid (true=V):=hid (by rw [<-HE.out,decide_eq_true (by have:=HN.out;omega)];rfl)
    have g0:((n:Int)==0)=true:=(by rw [hn];rfl);clear hn;go_wp2_with fail
    have:=HE.out;subst this;go_ret;exact⟨rfl,hb0⟩
   ·replace HE:Hid (false=V):=hid (by rw [<-HE.out,decide_eq_false (by have:=HN.out;omega)];rfl)
    have g0:((n:Int)==0)=false:=(by simp;omega);clear hn;go_wp2_with fail
    have:=HE.out;subst this;go_ret;exact⟨rfl,hb0⟩
theorem Qw7(hE:EOk E)(j:Nat)(k:Int)(l:List Int)(A:Option Addr)(n c:Nat)(w:World)(h:IntR w l A n c)(hr:ringOf k l=some (.one j)):Calls prog 40 #[.agg #[.int .i64 k,.slice A n c]] w (fun e w'=> ∃l:List Value,e=.returned (.tuple #[.agg l.toArray,.bool true])/\Ops E (.one j) w' l/\Below w.heap.size w w'):=by
 have H:(ringOf k l).isSome=true:=by rw [hr];rfl
 obtain⟨rfl,_,hj⟩:=Qr6 hr;have g6:((j:Int) !=6)=true:=by simp;omega
 clear hr;obtain⟨hb0,c1,c2⟩:=blk2 w [.int .i64 (j:Int),.slice A n c] [.nilFunc,.nilFunc,.nilFunc,.nilFunc,.nilFunc,.nilFunc,.nilFunc,.nilFunc,.nilFunc,.nilFunc] 24 63;have HR:=hid (h.below hb0);clear h;go_enter func40,ntmps40;go_wp2_with fail
 generalize ((w.alloc (.cells #[.int .i64 (j:Int),.slice A n c] 24)).alloc (.cells #[.nilFunc,.nilFunc,.nilFunc,.nilFunc,.nilFunc,.nilFunc,.nilFunc,.nilFunc,.nilFunc,.nilFunc] 63))=W0 at*
 refine(Qu1 (j:Int) l A n c _ true HR.out (hid H)).mono ?_;rintro e w1 ⟨rfl,hb1⟩;have HR:=hid (HR.out.below hb1);replace hb0:=bt hb0 hb1;replace c1:=c1.below hb1 c1.lt;replace c2:=c2.below hb1 c2.lt;clear hb1;have r0:=c1.cell (k:=0) rfl;go_wp2_with fail
 refine(Qqc hE j hj _).mono ?_;rintro e w2 ⟨l2,rfl,hl,hb1⟩;obtain⟨nn,AA,rfl⟩:=hl.ops.ten;replace hb0:=bt hb0 hb1;replace c2:=c2.below hb1 c2.lt;have HO:=hid hl;clear hb1 hl;obtain⟨a0,a1,a2,a3,a4,a5,a6,a7,a8,a9⟩:=c2.c10;obtain⟨f0,f1,f2,f3,f4,f5,f6,f7⟩:=c2.f8;have f8:=c2.frozen 8;have f9:=c2.frozen 9;go_wp2_with fail
 refine Qcg (l:=[.func (.func (nn 0)) #[] (AA 0),.func (.func (nn 1)) #[] (AA 1),.func (.func (nn 2)) #[] (AA 2),.func (.func (nn 3)) #[] (AA 3),.func (.func (nn 4)) #[] (AA 4),.func (.func (nn 5)) #[] (AA 5),.func (.func (nn 6)) #[] (AA 6),.func (.func (nn 7)) #[] (AA 7),.func (.func (nn 8)) #[] (AA 8),.func (.func (nn 9)) #[] (AA 9)]) results40 underlying63 (by kernel_rfl) rfl rfl (Qa7 c2 rfl _ _ _ _ _ _ _ _ _ _) rfl ?_;exact⟨_,rfl,HO.out _ (Ch1.s10 c2 (by decide) _ _ _ _ _ _ _ _ _ _),Qay hb0 (by omega) _ _ _ _ _ _ _ _ _ _⟩
variable {E:Rg->World->Value->Value->Value->Prop}
theorem Ch1.grown{w w':World}{B n:Nat}{v:Value}{l:List Value}(h:OwnO w B v n l)(hg:w.grownBy w' v.ownBlock):Ch1 w w':=by
 refine⟨hg.os,hg.tape,hg.output,hg.size,fun {b x t} hc=>hc.grown hg (fun e=>?_)⟩;rcases h.2 with⟨rfl,hn⟩|⟨g,cap,cur,rfl,hB,hh,hnc,_,hsz,hcur⟩
 ·simp [Value.ownBlock]at e
 ·simp [Value.ownBlock]at e
  subst e;rw [hc]at hh;injection hh with hh;injection hh with h1;have:=congrArg Array.size h1;simp at this;omega
theorem OwnO.chg{G:Nat->Prop}{w w':World}{B n:Nat}{v:Value}{l:List Value}(h:OwnO w B v n l)(hc:ChG G w w')(hG:∀b,B<=b->¬G b):OwnO w' B v n l:=by
 refine⟨h.1,?_⟩;rcases h.2 with h2|⟨g,cap,cur,e,hB,hh,rest⟩
 ·exact .inl h2
 ·exact .inr ⟨g,cap,cur,e,hB,(hc.block g (Qau hh) (hG g hB)).trans hh,rest⟩
structure FInv (E:Rg->World->Value->Value->Value->Prop) (ks:List Nat) (B i:Nat) (v:Value) (w:World):Prop where
 out:∃xs:List (List Value),xs.length=i/\OwnO w B v i xs.flatten/\(∀x∈xs,x.length=10)/\∀(j k:Nat),j<i->ks[j]? =some k->∃x,xs[j]? =some x/\OSt1 E k w x
theorem FInv.below{ks:List Nat}{B i:Nat}{v:Value}{w w':World}(h:FInv E ks B i v w)(hb:Below w.heap.size w w'):FInv E ks B i v w':=by
 obtain⟨xs,h1,h2,h3,h4⟩:=h.out;refine⟨xs,h1,h2.below hb,h3,fun j k hj hk=>?_⟩;obtain⟨x,e1,e2⟩:=h4 j k hj hk;exact⟨x,e1,e2.step (Ch1.of_below hb)⟩
theorem FInv.parts{ks:List Nat}{B n:Nat}{v:Value}{w:World}(h:FInv E ks B n v w)(hn:n=ks.length):∃A c,v=.slice A n c/\∀G:Nat->Prop,(∀b,B<=b->¬G b)->(∀b x t,G b->¬Cs w b [x] t)->∀w',ChG G w w'->Parts2 E ks w' A n c:=by
 obtain⟨xs,h1,h2,h3,h4⟩:=h.out;obtain⟨A,c,rfl,hr⟩:=Qus h2 h3 h1.symm;refine⟨A,c,rfl,fun G g1 g2 w' hw=>?_⟩;obtain⟨A',c',e,hr'⟩:=Qus (h2.chg hw g1) h3 h1.symm;injection e with e1 e2 e3;subst e1 e3;refine⟨xs,hr',by rw [h1,hn],fun j k hk=>?_⟩;obtain⟨x,e1,e2⟩:=h4 j k (by rw [hn];exact(List.getElem?_eq_some_iff.1 hk).1) hk;exact⟨x,e1,e2 w' (Ch1.of_chg hw g2)⟩
theorem Qz0(nn:Nat->Nat)(AA:Nat->Array Value):∀u∈([.func (.func (nn 0)) #[] (AA 0),.func (.func (nn 1)) #[] (AA 1),.func (.func (nn 2)) #[] (AA 2),.func (.func (nn 3)) #[] (AA 3),.func (.func (nn 4)) #[] (AA 4),.func (.func (nn 5)) #[] (AA 5),.func (.func (nn 6)) #[] (AA 6),.func (.func (nn 7)) #[] (AA 7),.func (.func (nn 8)) #[] (AA 8),.func (.func (nn 9)) #[] (AA 9)]:List Value),u.oneCell'=true:=by
 intro u hu;simp only [List.mem_cons,List.not_mem_nil,or_false]at hu;rcases hu with rfl|rfl|rfl|rfl|rfl|rfl|rfl|rfl|rfl|rfl<;>rfl
theorem Qr9(hE:EOk E)(ks:List Nat)(k:Int)(l:List Int)(A:Option Addr)(n c:Nat)(w:World)(h:IntR w l A n c)(hr:ringOf k l=some (.prod ks)):Calls prog 40 #[.agg #[.int .i64 k,.slice A n c]] w (fun e w'=> ∃l:List Value,e=.returned (.tuple #[.agg l.toArray,.bool true])/\Ops E (.prod ks) w' l/\Below w.heap.size w w'):=by
 have H:(ringOf k l).isSome=true:=by rw [hr];rfl
 have hok:okRg (.prod ks):=Qca hr;obtain⟨rfl,rfl,_⟩:=Qov hr;clear hr;have hln:n=ks.length:=by rw [h.len,List.length_map]
 obtain⟨hb0,c1,c2⟩:=blk2 w [.int .i64 6,.slice A n c] [.nilFunc,.nilFunc,.nilFunc,.nilFunc,.nilFunc,.nilFunc,.nilFunc,.nilFunc,.nilFunc,.nilFunc] 24 63;have HR:=hid (h.below hb0);have HN:=hid hln;have HOK:=hid hok;clear h hln hok;go_enter func40,ntmps40;go_wp2_with fail
 generalize ((w.alloc (.cells #[.int .i64 6,.slice A n c] 24)).alloc (.cells #[.nilFunc,.nilFunc,.nilFunc,.nilFunc,.nilFunc,.nilFunc,.nilFunc,.nilFunc,.nilFunc,.nilFunc] 63))=W0 at*
 refine(Qu1 6 _ A n c _ true HR.out (hid H)).mono ?_;rintro e w1 ⟨rfl,hb1⟩;have HR:=hid (HR.out.below hb1);replace hb0:=bt hb0 hb1;replace c1:=c1.below hb1 c1.lt;replace c2:=c2.below hb1 c2.lt;clear hb1 H;have a0:=c1.cell (k:=0) rfl;have a1:=c1.cell (k:=1) rfl;have HC2:=hid c2;have HB:=hid hb0;have HF0:Hid (FInv E ks w1.heap.size 0 (.slice none 0 0) w1):=hid ⟨[],rfl,World.ownsRow_nil ..,fun x hx=>(by cases hx),fun j k hj=>absurd hj (Nat.not_lt_zero _)⟩;have HS1:Hid (w.heap.size+1<w1.heap.size):=hid c2.lt;clear c2 hb0;go_wp2_with fail
 clear a0 a1 c1
 go_loopw [4,20] (fun v i wr=> ∃j:Nat,j<=n/\i=.int .i64 (j:Int)/\Hid (Below w.heap.size w wr)/\Hid (Below w1.heap.size w1 wr)/\Hid (FInv E ks w1.heap.size j v wr)) (fun _ i _=>(n-intOf i).toNat)
 case atStart=>exact⟨0,zero_le _,rfl,HB,Below.refl _ _,HF0⟩
 case round=>
  obtain⟨j,hj,rfl,HBr,HB1,HF⟩:=hrel;by_cases hjn:j<n
  ·obtain⟨b,o,x,rfl,hbq,hx,hc⟩:=HR.out.at_ hjn
   rw [List.getElem?_map]at hx;obtain⟨kk,hkk,rfl⟩:=Option.map_eq_some_iff.1 hx;have hlt:(j:Int)<(n:Int):=(by omega);have hw1:IntKind.i64.wrap ((j:Int)+1)=(j:Int)+1:=IntWalk.i64_in _ (by have:=HN.out;have:=HOK.out.2.1;omega);have hcw:wr.cell? ⟨b,o+j,none⟩=some (.int .i64 (kk:Int)):=(World.cell?_of_block (w:=w1) (HB1.out.block b hbq)).trans hc;have HK:=hid hjn;have HKK:=hid hkk;clear hx hc hbq hjn hkk;go_wp2_with fail
   refine(Qqc hE kk (HOK.out.2.2 kk (List.mem_of_getElem? HKK.out)) _).mono ?_;rintro e w2 ⟨l2,rfl,hl,hb2⟩;obtain⟨nn,AA,rfl⟩:=hl.ops.ten;obtain⟨xs,x1,x2,x3,x4⟩:=(HF.out.below hb2).out;have hbl:=blk1 w2 [.func (.func (nn 0)) #[] (AA 0),.func (.func (nn 1)) #[] (AA 1),.func (.func (nn 2)) #[] (AA 2),.func (.func (nn 3)) #[] (AA 3),.func (.func (nn 4)) #[] (AA 4),.func (.func (nn 5)) #[] (AA 5),.func (.func (nn 6)) #[] (AA 6),.func (.func (nn 7)) #[] (AA 7),.func (.func (nn 8)) #[] (AA 8),.func (.func (nn 9)) #[] (AA 9)] 63;have hown:OwnO (w2.alloc (.cells #[.func (.func (nn 0)) #[] (AA 0),.func (.func (nn 1)) #[] (AA 1),.func (.func (nn 2)) #[] (AA 2),.func (.func (nn 3)) #[] (AA 3),.func (.func (nn 4)) #[] (AA 4),.func (.func (nn 5)) #[] (AA 5),.func (.func (nn 6)) #[] (AA 6),.func (.func (nn 7)) #[] (AA 7),.func (.func (nn 8)) #[] (AA 8),.func (.func (nn 9)) #[] (AA 9)] 63)) w1.heap.size _ j xs.flatten:=x2.below hbl.1;have HX:=hid (And.intro x1 (And.intro x3 (And.intro x4 hl)));have HBb:=hid (And.intro ((bt HBr.out hb2).trans (hbl.1.mono (bt HBr.out hb2).size)) (And.intro ((bt HB1.out hb2).trans (hbl.1.mono (bt HB1.out hb2).size)) hbl.1));have HO:=hid hown;have HNW:=hid hbl.2;have HJ:Hid (j<=1000):=hid (by have:=HN.out;have:=HOK.out.2.1;omega);clear hl hb2 x1 x2 x3 x4 hbl hown hcw;go_wp2_with (at_builtin;refine Qfg rfl (.tmp 24) (.tmp 27) rfl rfl w1.heap.size _ j xs.flatten [.func (.func (nn 0)) #[] (AA 0),.func (.func (nn 1)) #[] (AA 1),.func (.func (nn 2)) #[] (AA 2),.func (.func (nn 3)) #[] (AA 3),.func (.func (nn 4)) #[] (AA 4),.func (.func (nn 5)) #[] (AA 5),.func (.func (nn 6)) #[] (AA 6),.func (.func (nn 7)) #[] (AA 7),.func (.func (nn 8)) #[] (AA 8),.func (.func (nn 9)) #[] (AA 9)] rfl HO.out _ rfl HNW.out rfl (Qz0 nn AA) HJ.out ?c1 ?_)
   case c1=>exact HBb.out.2.1.size
   rintro v1 w3 hown1 hgr hor;have hch:=Ch1.grown HO.out hgr;have hF:FInv E ks w1.heap.size (j+1) v1 w3:=by
    obtain⟨x1,x3,x4,hl⟩:=HX.out;have hc1:=(Ch1.of_below HBb.out.2.2).trans hch;refine⟨xs++[[.func (.func (nn 0)) #[] (AA 0),.func (.func (nn 1)) #[] (AA 1),.func (.func (nn 2)) #[] (AA 2),.func (.func (nn 3)) #[] (AA 3),.func (.func (nn 4)) #[] (AA 4),.func (.func (nn 5)) #[] (AA 5),.func (.func (nn 6)) #[] (AA 6),.func (.func (nn 7)) #[] (AA 7),.func (.func (nn 8)) #[] (AA 8),.func (.func (nn 9)) #[] (AA 9)]],by rw [List.length_append,x1];rfl,by rw [List.flatten_append];simpa using hown1,fun x hx=>?_,fun i k hi hk=>?_⟩
    ·rcases List.mem_append.1 hx with hx|hx
     ·exact x3 x hx
     ·rw [List.mem_singleton.1 hx];rfl
    ·rcases Nat.lt_or_ge i j with hij|hij
     ·obtain⟨y,e1,e2⟩:=x4 i k hij hk
      exact⟨y,by rw [List.getElem?_append_left (by omega)];exact e1,e2.step hc1⟩
     ·obtain rfl:i=j:=by omega
      rw [HKK.out]at hk;obtain rfl:=Option.some.inj hk;exact⟨_,by rw [List.getElem?_append_right (by omega),x1,Nat.sub_self];rfl,hl.step hc1⟩
   have hB2:Below w.heap.size w w3:=HBb.out.1.grown hgr HBb.out.1.size (fun k hk=>by have:=(World.ownsRow.lt HO.out k hk).1;have:=HS1.out;omega);have hB3:Below w1.heap.size w1 w3:=HBb.out.2.1.grown hgr HBb.out.2.1.size (fun k hk=>(World.ownsRow.lt HO.out k hk).1);clear hch hown1 hgr hor;have HF3:=hid hF;have HB2:=hid hB2;have HB3:=hid hB3;clear hF hB2 hB3;go_wp2_with fail
   go_roundw
   case rel=>exact⟨j+1,HK.out,congrArg (Value.int _) (by omega),HB2,HB3,HF3⟩
   case measure=>simp [intOf];have:=HK.out;omega
  ·have hlt:¬(j:Int)<(n:Int):=by omega
   obtain rfl:j=n:=(by omega);obtain⟨A2,c2,rfl,hp⟩:=HF.out.parts HN.out;have HC2:=hid (HC2.out.below HB1.out HC2.out.lt);have HT:=hid (Qwz hE (fun b=>b=w.heap.size+1) ks HOK.out A2 j c2 _ (hp _ (fun b hb e=>by have:=HS1.out;omega) (fun b x t e hc=>by subst e;exact hc.ne_len HC2.out (show(1:Nat)≠10 by decide) rfl)));clear hp;go_wp2_with fail
   refine HT.out.mono ?_;rintro e w4 ⟨l,rfl,hl,hb1⟩;obtain⟨nn,AA,rfl⟩:=hl.ops.ten;have HB4:=hid (bt HBr.out hb1);have HLT:=hid HC2.out.lt;have HC2:=hid (HC2.out.below hb1 HC2.out.lt);have HO:=hid hl;clear hb1 hl HT;obtain⟨a0,a1,a2,a3,a4,a5,a6,a7,a8,a9⟩:=HC2.out.c10;obtain⟨f0,f1,f2,f3,f4,f5,f6,f7⟩:=HC2.out.f8;have f8:=HC2.out.frozen 8;have f9:=HC2.out.frozen 9;go_wp2_with fail
   refine Qcg (l:=[.func (.func (nn 0)) #[] (AA 0),.func (.func (nn 1)) #[] (AA 1),.func (.func (nn 2)) #[] (AA 2),.func (.func (nn 3)) #[] (AA 3),.func (.func (nn 4)) #[] (AA 4),.func (.func (nn 5)) #[] (AA 5),.func (.func (nn 6)) #[] (AA 6),.func (.func (nn 7)) #[] (AA 7),.func (.func (nn 8)) #[] (AA 8),.func (.func (nn 9)) #[] (AA 9)]) results40 underlying63 (by kernel_rfl) rfl rfl (Qa7 HC2.out rfl _ _ _ _ _ _ _ _ _ _) rfl ?_;exact⟨_,rfl,HO.out _ (ChG.s10 (g:=w.heap.size+1) ⟨rfl,HLT.out⟩ (ChG.of_below (Below.refl _ _)) _ _ _ _ _ _ _ _ _ _),Qay HB4.out (by omega) _ _ _ _ _ _ _ _ _ _⟩
theorem Qqe(hE:EOk E)(r:Rg)(k:Int)(l:List Int)(A:Option Addr)(n c:Nat)(w:World)(h:IntR w l A n c)(hr:ringOf k l=some r):Calls prog 40 #[.agg #[.int .i64 k,.slice A n c]] w (fun e w'=> ∃l:List Value,e=.returned (.tuple #[.agg l.toArray,.bool true])/\Ops E r w' l/\Below w.heap.size w w'):=by
 cases r with
 |one j=>exact Qw7 hE j k l A n c w h hr
 |prod ks=>exact Qr9 hE ks k l A n c w h hr
variable {E:Rg->World->Value->Value->Value->Prop}
theorem Zero_o(hE:EOk E)(r:Rg)(k:Int)(l:List Int)(A:Option Addr)(n c:Nat)(w:World)(hT:Tab w)(h:IntR w l A n c)(hr:ringOf k l=some r):Calls prog 20 #[.agg #[.int .i64 k,.slice A n c]] w (RetX 0 w (dOfW (zeroR r))):=by
 obtain⟨hb0,c1,c2⟩:=blk2 w [.int .i64 k,.slice A n c] [.bool false,.slice none 0 0,.slice none 0 0,.int .i64 0,.bool false,.int .u64 0,.slice none 0 0,.slice none 0 0] 24 32;have HF:=hid (Qqe hE r k l A n c _ (h.below hb0) hr);have HT:=hid hT;clear h hr hT c1;go_enter func20,ntmps20;go_wp2_with fail
 have HS:=hid c2.lt;refine HF.out.mono ?_;rintro e w1 ⟨l2,rfl,hl,hb1⟩;obtain⟨_,_,_,_,_,_,_,_,_,_,rfl,⟨n0,A0,rfl,E0,h0⟩,⟨n1,A1,rfl,E1,h1⟩,⟨n2,A2,rfl,E2,h2⟩,⟨n3,A3,rfl,E3,h3⟩,⟨n4,A4,rfl,E4,h4⟩,⟨n5,A5,rfl,E5,h5⟩,⟨n7,A7,rfl,E7,h7⟩,⟨n6,A6,rfl⟩,⟨n8,A8,rfl⟩,⟨n9,A9,rfl⟩,_⟩:=hl.out;replace hb0:=bt hb0 hb1;replace c2:=c2.below hb1 c2.lt;clear hb1;unfold Ent at E2;have hbl:=blk1 w1 [.func (.func n0) #[] A0,.func (.func n1) #[] A1,.func (.func n2) #[] A2,.func (.func n3) #[] A3,.func (.func n4) #[] A4,.func (.func n5) #[] A5,.func (.func n6) #[] A6,.func (.func n7) #[] A7,.func (.func n8) #[] A8,.func (.func n9) #[] A9] 63;have HZ:=hid (h2 _ hbl.1 #[] _ ⟨rfl,HT.out.below (bt hb0 hbl.1),rfl⟩);rw [Array.empty_append]at HZ;have HB:=hid (bt hb0 hbl.1);have HC:=hid (c2.below hbl.1 c2.lt);have HS2:=hid (Nat.lt_of_lt_of_le c2.lt hbl.1.size);clear h0 h1 h2 h3 h4 h5 h7 hl hbl c2 hb0 HF;go_wp2_with fail
 refine HZ.out.mono ?_;rintro e w3 ⟨l3,rfl,hl,hb1⟩;obtain⟨A',n',c',B',m',e',P',p',r',Q',q',s',rfl,_⟩:=hl.rd.shape;have hb0:=bt HB.out hb1;have c2:=HC.out.below hb1 HC.out.lt;have HL:=hid hl;clear hb1 hl HZ;obtain⟨a0,a1,a2,a3,a4,a5,a6,a7⟩:=c2.c8;obtain⟨f0,f1,f2,f3,f4,f5,f6,f7⟩:=c2.f8;go_wp2_with fail
 refine Qaj (l:=[.bool (dOfW (zeroR r)).neg,.slice A' n' c',.slice B' m' e',.int .i64 (dOfW (zeroR r)).c,.bool (dOfW (zeroR r)).i,.int .u64 (dOfW (zeroR r)).s,.slice P' p' r',.slice Q' q' s']) results20 underlying32 (by kernel_rfl) rfl (Qak c2 rfl _ _ _ _ _ _ _ _) rfl ?_;exact Qd0 HL.out HS2.out (zero_le _) (by omega) hb0 c2 rfl
theorem One_o(hE:EOk E)(r:Rg)(k:Int)(l:List Int)(A:Option Addr)(n c:Nat)(w:World)(hT:Tab w)(h:IntR w l A n c)(hr:ringOf k l=some r):Calls prog 22 #[.agg #[.int .i64 k,.slice A n c]] w (RetX 0 w (dOfW (oneR r))):=by
 obtain⟨hb0,c1,c2⟩:=blk2 w [.int .i64 k,.slice A n c] [.bool false,.slice none 0 0,.slice none 0 0,.int .i64 0,.bool false,.int .u64 0,.slice none 0 0,.slice none 0 0] 24 32;have HF:=hid (Qqe hE r k l A n c _ (h.below hb0) hr);have HT:=hid hT;clear h hr hT c1;go_enter func22,ntmps22;go_wp2_with fail
 have HS:=hid c2.lt;refine HF.out.mono ?_;rintro e w1 ⟨l2,rfl,hl,hb1⟩;obtain⟨_,_,_,_,_,_,_,_,_,_,rfl,⟨n0,A0,rfl,E0,h0⟩,⟨n1,A1,rfl,E1,h1⟩,⟨n2,A2,rfl,E2,h2⟩,⟨n3,A3,rfl,E3,h3⟩,⟨n4,A4,rfl,E4,h4⟩,⟨n5,A5,rfl,E5,h5⟩,⟨n7,A7,rfl,E7,h7⟩,⟨n6,A6,rfl⟩,⟨n8,A8,rfl⟩,⟨n9,A9,rfl⟩,_⟩:=hl.out;replace hb0:=bt hb0 hb1;replace c2:=c2.below hb1 c2.lt;clear hb1;unfold Ent at E3;have hbl:=blk1 w1 [.func (.func n0) #[] A0,.func (.func n1) #[] A1,.func (.func n2) #[] A2,.func (.func n3) #[] A3,.func (.func n4) #[] A4,.func (.func n5) #[] A5,.func (.func n6) #[] A6,.func (.func n7) #[] A7,.func (.func n8) #[] A8,.func (.func n9) #[] A9] 63;have HZ:=hid (h3 _ hbl.1 #[] _ ⟨rfl,HT.out.below (bt hb0 hbl.1),rfl⟩);rw [Array.empty_append]at HZ;have HB:=hid (bt hb0 hbl.1);have HC:=hid (c2.below hbl.1 c2.lt);have HS2:=hid (Nat.lt_of_lt_of_le c2.lt hbl.1.size);clear h0 h1 h2 h3 h4 h5 h7 hl hbl c2 hb0 HF;go_wp2_with fail
 refine HZ.out.mono ?_;rintro e w3 ⟨l3,rfl,hl,hb1⟩;obtain⟨A',n',c',B',m',e',P',p',r',Q',q',s',rfl,_⟩:=hl.rd.shape;have hb0:=bt HB.out hb1;have c2:=HC.out.below hb1 HC.out.lt;have HL:=hid hl;clear hb1 hl HZ;obtain⟨a0,a1,a2,a3,a4,a5,a6,a7⟩:=c2.c8;obtain⟨f0,f1,f2,f3,f4,f5,f6,f7⟩:=c2.f8;go_wp2_with fail
 refine Qaj (l:=[.bool (dOfW (oneR r)).neg,.slice A' n' c',.slice B' m' e',.int .i64 (dOfW (oneR r)).c,.bool (dOfW (oneR r)).i,.int .u64 (dOfW (oneR r)).s,.slice P' p' r',.slice Q' q' s']) results22 underlying32 (by kernel_rfl) rfl (Qak c2 rfl _ _ _ _ _ _ _ _) rfl ?_;exact Qd0 HL.out HS2.out (zero_le _) (by omega) hb0 c2 rfl
end Go.Proofs.YthbhgelncdnmgaaGreatDoor
