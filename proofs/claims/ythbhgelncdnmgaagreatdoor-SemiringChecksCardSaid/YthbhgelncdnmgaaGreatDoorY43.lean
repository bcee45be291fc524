import Derived.Test.YthbhgelncdnmgaaGreatDoorY40
import Derived.Test.YthbhgelncdnmgaaGreatDoorY42
import Derived.Test.YthbhgelncdnmgaaGreatDoorY17
set_option linter.unusedVariables false
set_option linter.unusedSimpArgs false
set_option maxRecDepth 20000
set_option maxHeartbeats 8000000
namespace Go.Proofs.YthbhgelncdnmgaaGreatDoor
open Go.Proofs.Tryz
open Lib (hid)
open Nat (zero_le lt_or_ge not_lt_zero)
open Go.RowKit
variable {E:Rg->World->Value->Value->Value->Prop}
def IntR(w:World)(l:List Int)(A:Option Addr)(n c:Nat):Prop:=Rd w (l.map fun x=>Value.int .i64 x) A n c
theorem IntR.below{w w':World}{l:List Int}{A:Option Addr}{n c:Nat}(h:IntR w l A n c)(hb:Below w.heap.size w w'):IntR w' l A n c:=Rd.below h hb
theorem IntR.len{w:World}{l:List Int}{A:Option Addr}{n c:Nat}(h:IntR w l A n c):n=l.length:=by rw [Rd.len h,List.length_map]
theorem IntR.at_{w:World}{l:List Int}{A:Option Addr}{n c:Nat}(h:IntR w l A n c){k:Nat}(hk:k<n):∃b o x,A=some ⟨b,o,none⟩/\b<w.heap.size/\l[k]? =some x/\w.cell? ⟨b,o+k,none⟩=some (.int .i64 x):=by
 obtain⟨b,o,v,hA,hb,hv,hc⟩:=Rd.at_ h hk;rw [List.getElem?_map]at hv;obtain⟨x,hx,rfl⟩:=Option.map_eq_some_iff.1 hv;exact⟨b,o,x,hA,hb,hx,hc⟩
def okI(x:Int):Bool:=decide (1<=x) && decide (x<=5)
theorem Qpf{k:Int}{l:List Int}(h:k≠6):(ringOf k l).isSome=(okI k && decide (l.length=0)):=by
 unfold ringOf okI;rw [if_neg h];by_cases h1:1<=k/\k<=5/\l=[]
 ·rw [if_pos h1,decide_eq_true h1.1,decide_eq_true h1.2.1,h1.2.2];rfl
 ·rw [if_neg h1]
  show false=_;symm;rw [Bool.eq_false_iff];intro hh;simp only [Bool.and_eq_true,decide_eq_true_eq]at hh;exact h1 ⟨hh.1.1,hh.1.2,List.eq_nil_of_length_eq_zero hh.2⟩
theorem Qmp{l:List Int}:(ringOf 6 l).isSome=(decide (2<=l.length/\l.length<=3) && l.all okI):=by
 unfold ringOf;rw [if_pos rfl];by_cases h1:2<=l.length/\l.length<=3
 ·by_cases h2:l.all okI=true
  ·rw [if_pos ⟨h1.1,h1.2,h2⟩,decide_eq_true h1,h2];rfl
  ·rw [if_neg (fun h=>h2 h.2.2)]
   rw [Bool.not_eq_true]at h2;rw [h2,Bool.and_false];rfl
 ·rw [if_neg (fun h=>h1 ⟨h.1,h.2.1⟩),decide_eq_false h1];rfl
theorem Qkr(k:Int)(l:List Int)(A:Option Addr)(n c:Nat)(w:World)(V:Bool)(h:IntR w l A n c)(H:Hid ((ringOf k l).isSome=V)):Calls prog 12 #[.agg #[.int .i64 k,.slice A n c]] w (RetV w (.bool V)):=by
 obtain⟨hb0,c1⟩:=blk1 w [.int .i64 k,.slice A n c] 24;have HN:=hid h.len;have HR:=hid h;clear h;go_enter func12,ntmps12;by_cases h6:k=6
 ·subst h6
  have HE:Hid ((decide (2<=l.length/\l.length<=3) && l.all okI)=V):=hid (by rw [<-H.out,Qmp]);clear H;by_cases h2:n<2
  ·replace HE:Hid (false=V):=hid (by rw [<-HE.out,decide_eq_false (by have:=HN.out;omega)];rfl)
   have h2':(n:Int)<2:=(by omega);go_wp2_with fail
   have:=HE.out;subst this;go_ret;exact⟨rfl,hb0⟩
  ·have h2':¬(n:Int)<2:=by omega
   by_cases h3:3<n
   ·replace HE:Hid (false=V):=hid (by rw [<-HE.out,decide_eq_false (by have:=HN.out;omega)];rfl)
    have h3':(3:Int)<(n:Int):=(by omega);go_wp2_with fail
    have:=HE.out;subst this;go_ret;exact⟨rfl,hb0⟩
   ·have h3':¬(3:Int)<(n:Int):=by omega
    replace HE:Hid (l.all okI=V):=hid (by rw [<-HE.out,decide_eq_true (by have:=HN.out;omega),Bool.true_and]);have HL3:=hid h3;go_wp2_with fail
    have HB:=hid hb0;clear hb0
    go_loopw [30] (fun i wr=> ∃j:Nat,j<=n/\i=.int .i64 (j:Int)/\Below w.heap.size w wr/\Hid (∀(i:Nat) (x:Int),i<j->l[i]? =some x->okI x=true)) (fun i _=>(n-intOf i).toNat)
    case atStart=>exact⟨0,zero_le _,rfl,HB.out,fun i x hi=>absurd hi (not_lt_zero _)⟩
    case round=>
     obtain⟨j,hj,rfl,hb,HO⟩:=hrel;have HBr:=hid hb;by_cases hjn:j<n
     ·obtain⟨b,o,x,rfl,hbq,hx,hc⟩:=HR.out.at_ hjn
      have hlt:(j:Int)<(n:Int):=(by omega);have hw1:IntKind.i64.wrap ((j:Int)+1)=(j:Int)+1:=IntWalk.i64_in _ (by have:=HL3.out;omega);have hcw:wr.cell? ⟨b,o+j,none⟩=some (.int .i64 x):=(World.cell?_of_block (w:=w) (hb.block b hbq)).trans hc;obtain⟨V1,hV1⟩:∃V1,okI x=V1:=⟨_,rfl⟩;have HX:=hid hx;have HV1:Hid ((decide (1<=x) && decide (x<=5))=V1):=hid hV1;have HK:=hid hjn;clear hb hc hx hV1 hbq hjn;go_wp2_with fail
      refine(Qep x V1 _ HV1).mono ?_;rintro e w1 ⟨rfl,hb1⟩;have HB1:=hid (bt HBr.out hb1);clear hb1;cases V1
      ·have HF:Hid (false=V):=hid (by
        rw [<-HE.out];symm;rw [Bool.eq_false_iff];intro hh;have h1:=List.all_eq_true.1 hh x (List.mem_of_getElem? HX.out);have h2:okI x=false:=HV1.out;rw [h2]at h1;cases h1)
       go_wp2_with fail
       have:=HF.out;subst this;go_ret;exact⟨rfl,HB1.out⟩
      ·go_wp2_with fail
       go_roundw
       case rel=>
        refine⟨j+1,HK.out,congrArg (Value.int _) (by omega),HB1.out,fun i y hi hy=>?_⟩;rcases lt_or_ge i j with hij|hij
        ·exact HO.out i y hij hy
        ·obtain rfl:i=j:=by omega
         rw [HX.out]at hy;obtain rfl:=Option.some.inj hy;exact HV1.out
       case measure=>simp [intOf];have:=HK.out;omega
     ·have HF:Hid (true=V):=hid (by
       rw [<-HE.out];symm;refine List.all_eq_true.2 (fun x hx=>?_);obtain⟨i,hi⟩:=List.mem_iff_getElem?.1 hx;have:=(List.getElem?_eq_some_iff.1 hi).1;exact HO.out i x (by have:=HN.out;omega) hi)
      have hlt:¬(j:Int)<(n:Int):=(by omega);clear hb HO;go_wp2_with fail
      have:=HF.out;subst this;go_ret;exact⟨rfl,HBr.out⟩
 ·have HE:Hid ((okI k && decide (l.length=0))=V):=hid (by rw [<-H.out,Qpf h6])
  clear H;have g6:(k !=6)=true:=by simpa using h6
  obtain⟨V1,hV1⟩:∃V1,okI k=V1:=⟨_,rfl⟩;have HV1:Hid ((decide (1<=k) && decide (k<=5))=V1):=hid hV1;rw [hV1]at HE;clear hV1;go_wp2_with fail
  refine(Qep k V1 _ HV1).mono ?_;rintro e w1 ⟨rfl,hb1⟩;replace hb0:=bt hb0 hb1;replace c1:=c1.below hb1 c1.lt;clear hb1;cases V1
  ·replace HE:Hid (false=V):=HE
   go_wp2_with fail
   have:=HE.out;subst this;go_ret;exact⟨rfl,hb0⟩
  ·have a1:=c1.cell (k:=1) rfl
   by_cases hn:n=0
   ·replace HE:Hid (true=V):=hid (by rw [<-HE.out,decide_eq_true (by have:=HN.out;omega)];rfl)
    have g0:((n:Int)==0)=true:=(by rw [hn];rfl);clear hn;go_wp2_with fail
    have:=HE.out;subst this;go_ret;exact⟨rfl,hb0⟩
   ·replace HE:Hid (false=V):=hid (by rw [<-HE.out,decide_eq_false (by have:=HN.out;omega)];rfl)
    have g0:((n:Int)==0)=false:=(by simp;omega);clear hn;go_wp2_with fail
    have:=HE.out;subst this;go_ret;exact⟨rfl,hb0⟩
theorem Qih(k:Int)(l:List Int)(A:Option Addr)(n c:Nat)(w:World)(h:IntR w l A n c)(H:(ringOf k l).isSome=false):Calls prog 40 #[.agg #[.int .i64 k,.slice A n c]] w (fun e w'=>e=.returned (.tuple #[.agg #[.nilFunc,.nilFunc,.nilFunc,.nilFunc,.nilFunc,.nilFunc,.nilFunc,.nilFunc,.nilFunc,.nilFunc],.bool false])/\Below w.heap.size w w'):=by
 obtain⟨hb0,c1,c2⟩:=blk2 w [.int .i64 k,.slice A n c] [.nilFunc,.nilFunc,.nilFunc,.nilFunc,.nilFunc,.nilFunc,.nilFunc,.nilFunc,.nilFunc,.nilFunc] 24 63;have HR:=hid (h.below hb0);clear h;go_enter func40,ntmps40;go_wp2_with fail
 generalize ((w.alloc (.cells #[.int .i64 k,.slice A n c] 24)).alloc (.cells #[.nilFunc,.nilFunc,.nilFunc,.nilFunc,.nilFunc,.nilFunc,.nilFunc,.nilFunc,.nilFunc,.nilFunc] 63))=W0 at*
 refine(Qkr k l A n c _ false HR.out (hid H)).mono ?_;rintro e w1 ⟨rfl,hb1⟩;have HR:=hid (HR.out.below hb1);replace hb0:=bt hb0 hb1;replace c1:=c1.below hb1 c1.lt;replace c2:=c2.below hb1 c2.lt;clear hb1;obtain⟨a0,a1,a2,a3,a4,a5,a6,a7,a8,a9⟩:=c2.c10;obtain⟨f0,f1,f2,f3,f4,f5,f6,f7⟩:=c2.f8;have f8:=c2.frozen 8;have f9:=c2.frozen 9;go_wp2_with fail
 refine Qbz (l:=[.nilFunc,.nilFunc,.nilFunc,.nilFunc,.nilFunc,.nilFunc,.nilFunc,.nilFunc,.nilFunc,.nilFunc]) results40 underlying63 (by kernel_rfl) rfl rfl (Qa5 c2 rfl _ _ _ _ _ _ _ _ _ _) rfl ?_;exact⟨rfl,Qav hb0 (by omega) _ _ _ _ _ _ _ _ _ _⟩
theorem Qwo(hE:EOk E)(j:Nat)(k:Int)(l:List Int)(A:Option Addr)(n c:Nat)(w:World)(h:IntR w l A n c)(hr:ringOf k l=some (.one j)):Calls prog 40 #[.agg #[.int .i64 k,.slice A n c]] w (fun e w'=> ∃l:List Value,e=.returned (.tuple #[.agg l.toArray,.bool true])/\Ops E (.one j) w' l/\Below w.heap.size w w'):=by
 have H:(ringOf k l).isSome=true:=by rw [hr];rfl
 obtain⟨rfl,_,hj⟩:=Qes hr;have g6:((j:Int) !=6)=true:=by simp;omega
 clear hr;obtain⟨hb0,c1,c2⟩:=blk2 w [.int .i64 (j:Int),.slice A n c] [.nilFunc,.nilFunc,.nilFunc,.nilFunc,.nilFunc,.nilFunc,.nilFunc,.nilFunc,.nilFunc,.nilFunc] 24 63;have HR:=hid (h.below hb0);clear h;go_enter func40,ntmps40;go_wp2_with fail
 generalize ((w.alloc (.cells #[.int .i64 (j:Int),.slice A n c] 24)).alloc (.cells #[.nilFunc,.nilFunc,.nilFunc,.nilFunc,.nilFunc,.nilFunc,.nilFunc,.nilFunc,.nilFunc,.nilFunc] 63))=W0 at*
 refine(Qkr (j:Int) l A n c _ true HR.out (hid H)).mono ?_;rintro e w1 ⟨rfl,hb1⟩;have HR:=hid (HR.out.below hb1);replace hb0:=bt hb0 hb1;replace c1:=c1.below hb1 c1.lt;replace c2:=c2.below hb1 c2.lt;clear hb1;have r0:=c1.cell (k:=0) rfl;go_wp2_with fail
 refine(Qpc hE j hj _).mono ?_;rintro e w2 ⟨l2,rfl,hl,hb1⟩;obtain⟨nn,AA,rfl⟩:=hl.ops.ten;replace hb0:=bt hb0 hb1;replace c2:=c2.below hb1 c2.lt;have HO:=hid hl;clear hb1 hl;obtain⟨a0,a1,a2,a3,a4,a5,a6,a7,a8,a9⟩:=c2.c10;obtain⟨f0,f1,f2,f3,f4,f5,f6,f7⟩:=c2.f8;have f8:=c2.frozen 8;have f9:=c2.frozen 9;go_wp2_with fail
 refine Qbz (l:=[.func (.func (nn 0)) #[] (AA 0),.func (.func (nn 1)) #[] (AA 1),.func (.func (nn 2)) #[] (AA 2),.func (.func (nn 3)) #[] (AA 3),.func (.func (nn 4)) #[] (AA 4),.func (.func (nn 5)) #[] (AA 5),.func (.func (nn 6)) #[] (AA 6),.func (.func (nn 7)) #[] (AA 7),.func (.func (nn 8)) #[] (AA 8),.func (.func (nn 9)) #[] (AA 9)]) results40 underlying63 (by kernel_rfl) rfl rfl (Qa5 c2 rfl _ _ _ _ _ _ _ _ _ _) rfl ?_;exact⟨_,rfl,HO.out _ (Ch1.s10 c2 (by decide) _ _ _ _ _ _ _ _ _ _),Qav hb0 (by omega) _ _ _ _ _ _ _ _ _ _⟩
variable {E:Rg->World->Value->Value->Value->Prop}
theorem Ch1.grown{w w':World}{B n:Nat}{v:Value}{l:List Value}(h:OwnO w B v n l)(hg:w.grownBy w' v.ownBlock):Ch1 w w':=by
 refine⟨hg.os,hg.tape,hg.output,hg.size,fun {b x t} hc=>hc.grown hg (fun e=>?_)⟩;rcases h.2 with⟨rfl,hn⟩|⟨g,cap,cur,rfl,hB,hh,hnc,_,hsz,hcur⟩
 ·simp [Value.ownBlock]at e
 ·simp [Value.ownBlock]at e
  subst e;rw [hc]at hh;injection hh with hh;injection hh with h1;have:=congrArg Array.size h1;simp at this;omega
theorem OwnO.chg{G:Nat->Prop}{w w':World}{B n:Nat}{v:Value}{l:List Value}(h:OwnO w B v n l)(hc:ChG G w w')(hG:∀b,B<=b->¬G b):OwnO w' B v n l:=by
 refine⟨h.1,?_⟩;rcases h.2 with h2|⟨g,cap,cur,e,hB,hh,rest⟩
 ·exact .inl h2
 ·exact .inr ⟨g,cap,cur,e,hB,(hc.block g (Qas hh) (hG g hB)).trans hh,rest⟩
structure FInv (E:Rg->World->Value->Value->Value->Prop) (ks:List Nat) (B i:Nat) (v:Value) (w:World):Prop where
 out:∃xs:List (List Value),xs.length=i/\OwnO w B v i xs.flatten/\(∀x∈xs,x.length=10)/\∀(j k:Nat),j<i->ks[j]? =some k->∃x,xs[j]? =some x/\OSt1 E k w x
theorem FInv.below{ks:List Nat}{B i:Nat}{v:Value}{w w':World}(h:FInv E ks B i v w)(hb:Below w.heap.size w w'):FInv E ks B i v w':=by
 obtain⟨xs,h1,h2,h3,h4⟩:=h.out;refine⟨xs,h1,h2.below hb,h3,fun j k hj hk=>?_⟩;obtain⟨x,e1,e2⟩:=h4 j k hj hk;exact⟨x,e1,e2.step (Ch1.of_below hb)⟩
theorem FInv.parts{ks:List Nat}{B n:Nat}{v:Value}{w:World}(h:FInv E ks B n v w)(hn:n=ks.length):∃A c,v=.slice A n c/\∀G:Nat->Prop,(∀b,B<=b->¬G b)->(∀b x t,G b->¬Cs w b [x] t)->∀w',ChG G w w'->Parts2 E ks w' A n c:=by
 obtain⟨xs,h1,h2,h3,h4⟩:=h.out;obtain⟨A,c,rfl,hr⟩:=Qt1 h2 h3 h1.symm;refine⟨A,c,rfl,fun G g1 g2 w' hw=>?_⟩;obtain⟨A',c',e,hr'⟩:=Qt1 (h2.chg hw g1) h3 h1.symm;injection e with e1 e2 e3;subst e1 e3;refine⟨xs,hr',by rw [h1,hn],fun j k hk=>?_⟩;obtain⟨x,e1,e2⟩:=h4 j k (by rw [hn];exact(List.getElem?_eq_some_iff.1 hk).1) hk;exact⟨x,e1,e2 w' (Ch1.of_chg hw g2)⟩
theorem Qy9(nn:Nat->Nat)(AA:Nat->Array Value):∀u∈([.func (.func (nn 0)) #[] (AA 0),.func (.func (nn 1)) #[] (AA 1),.func (.func (nn 2)) #[] (AA 2),.func (.func (nn 3)) #[] (AA 3),.func (.func (nn 4)) #[] (AA 4),.func (.func (nn 5)) #[] (AA 5),.func (.func (nn 6)) #[] (AA 6),.func (.func (nn 7)) #[] (AA 7),.func (.func (nn 8)) #[] (AA 8),.func (.func (nn 9)) #[] (AA 9)]:List Value),u.oneCell'=true:=by
 intro u hu;simp only [List.mem_cons,List.not_mem_nil,or_false]at hu;rcases hu with rfl|rfl|rfl|rfl|rfl|rfl|rfl|rfl|rfl|rfl<;>rfl
theorem Qqw(hE:EOk E)(ks:List Nat)(k:Int)(l:List Int)(A:Option Addr)(n c:Nat)(w:World)(h:IntR w l A n c)(hr:ringOf k l=some (.prod ks)):Calls prog 40 #[.agg #[.int .i64 k,.slice A n c]] w (fun e w'=> ∃l:List Value,e=.returned (.tuple #[.agg l.toArray,.bool true])/\Ops E (.prod ks) w' l/\Below w.heap.size w w'):=by
 have H:(ringOf k l).isSome=true:=by rw [hr];rfl
 have hok:okRg (.prod ks):=Qbp hr;obtain⟨rfl,rfl,_⟩:=Qdx hr;clear hr;have hln:n=ks.length:=by rw [h.len,List.length_map]
 obtain⟨hb0,c1,c2⟩:=blk2 w [.int .i64 6,.slice A n c] [.nilFunc,.nilFunc,.nilFunc,.nilFunc,.nilFunc,.nilFunc,.nilFunc,.nilFunc,.nilFunc,.nilFunc] 24 63;have HR:=hid (h.below hb0);have HN:=hid hln;have HOK:=hid hok;clear h hln hok;go_enter func40,ntmps40;go_wp2_with fail
 generalize ((w.alloc (.cells #[.int .i64 6,.slice A n c] 24)).alloc (.cells #[.nilFunc,.nilFunc,.nilFunc,.nilFunc,.nilFunc,.nilFunc,.nilFunc,.nilFunc,.nilFunc,.nilFunc] 63))=W0 at*
 refine(Qkr 6 _ A n c _ true HR.out (hid H)).mono ?_;rintro e w1 ⟨rfl,hb1⟩;have HR:=hid (HR.out.below hb1);replace hb0:=bt hb0 hb1;replace c1:=c1.below hb1 c1.lt;replace c2:=c2.below hb1 c2.lt;clear hb1 H;have a0:=c1.cell (k:=0) rfl;have a1:=c1.cell (k:=1) rfl;have HC2:=hid c2;have HB:=hid hb0;have HF0:Hid (FInv E ks w1.heap.size 0 (.slice none 0 0) w1):=hid ⟨[],rfl,World.ownsRow_nil ..,fun x hx=>(by cases hx),fun j k hj=>absurd hj (not_lt_zero _)⟩;have HS1:Hid (w.heap.size+1<w1.heap.size):=hid c2.lt;clear c2 hb0;go_wp2_with fail
 clear a0 a1 c1
 go_loopw [4,20] (fun v i wr=> ∃j:Nat,j<=n/\i=.int .i64 (j:Int)/\Hid (Below w.heap.size w wr)/\Hid (Below w1.heap.size w1 wr)/\Hid (FInv E ks w1.heap.size j v wr)) (fun _ i _=>(n-intOf i).toNat)
 case atStart=>exact⟨0,zero_le _,rfl,HB,Below.refl _ _,HF0⟩
 case round=>
  obtain⟨j,hj,rfl,HBr,HB1,HF⟩:=hrel;by_cases hjn:j<n
  ·obtain⟨b,o,x,rfl,hbq,hx,hc⟩:=HR.out.at_ hjn
   rw [List.getElem?_map]at hx;obtain⟨kk,hkk,rfl⟩:=Option.map_eq_some_iff.1 hx;have hlt:(j:Int)<(n:Int):=(by omega);have hw1:IntKind.i64.wrap ((j:Int)+1)=(j:Int)+1:=IntWalk.i64_in _ (by have:=HN.out;have:=HOK.out.2.1;omega);have hcw:wr.cell? ⟨b,o+j,none⟩=some (.int .i64 (kk:Int)):=(World.cell?_of_block (w:=w1) (HB1.out.block b hbq)).trans hc;have HK:=hid hjn;have HKK:=hid hkk;clear hx hc hbq hjn hkk;go_wp2_with fail
   refine(Qpc hE kk (HOK.out.2.2 kk (List.mem_of_getElem? HKK.out)) _).mono ?_;rintro e w2 ⟨l2,rfl,hl,hb2⟩;obtain⟨nn,AA,rfl⟩:=hl.ops.ten;obtain⟨xs,x1,x2,x3,x4⟩:=(HF.out.below hb2).out;have hbl:=blk1 w2 [.func (.func (nn 0)) #[] (AA 0),.func (.func (nn 1)) #[] (AA 1),.func (.func (nn 2)) #[] (AA 2),.func (.func (nn 3)) #[] (AA 3),.func (.func (nn 4)) #[] (AA 4),.func (.func (nn 5)) #[] (AA 5),.func (.func (nn 6)) #[] (AA 6),.func (.func (nn 7)) #[] (AA 7),.func (.func (nn 8)) #[] (AA 8),.func (.func (nn 9)) #[] (AA 9)] 63;have hown:OwnO (w2.alloc (.cells #[.func (.func (nn 0)) #[] (AA 0),.func (.func (nn 1)) #[] (AA 1),.func (.func (nn 2)) #[] (AA 2),.func (.func (nn 3)) #[] (AA 3),.func (.func (nn 4)) #[] (AA 4),.func (.func (nn 5)) #[] (AA 5),.func (.func (nn 6)) #[] (AA 6),.func (.func (nn 7)) #[] (AA 7),.func (.func (nn 8)) #[] (AA 8),.func (.func (nn 9)) #[] (AA 9)] 63)) w1.heap.size _ j xs.flatten:=x2.below hbl.1;have HX:=hid (And.intro x1 (And.intro x3 (And.intro x4 hl)));have HBb:=hid (And.intro ((bt HBr.out hb2).trans (hbl.1.mono (bt HBr.out hb2).size)) (And.intro ((bt HB1.out hb2).trans (hbl.1.mono (bt HB1.out hb2).size)) hbl.1));have HO:=hid hown;have HNW:=hid hbl.2;have HJ:Hid (j<=1000):=hid (by have:=HN.out;have:=HOK.out.2.1;omega);clear hl hb2 x1 x2 x3 x4 hbl hown hcw;go_wp2_with (at_builtin;refine Qfi rfl (.tmp 24) (.tmp 27) rfl rfl w1.heap.size _ j xs.flatten [.func (.func (nn 0)) #[] (AA 0),.func (.func (nn 1)) #[] (AA 1),.func (.func (nn 2)) #[] (AA 2),.func (.func (nn 3)) #[] (AA 3),.func (.func (nn 4)) #[] (AA 4),.func (.func (nn 5)) #[] (AA 5),.func (.func (nn 6)) #[] (AA 6),.func (.func (nn 7)) #[] (AA 7),.func (.func (nn 8)) #[] (AA 8),.func (.func (nn 9)) #[] (AA 9)] rfl HO.out _ rfl HNW.out rfl (Qy9 nn AA) HJ.out ?c1 ?_)
   case c1=>exact HBb.out.2.1.size
   rintro v1 w3 hown1 hgr hor;have hch:=Ch1.grown HO.out hgr;have hF:FInv E ks w1.heap.size (j+1) v1 w3:=by
    obtain⟨x1,x3,x4,hl⟩:=HX.out;have hc1:=(Ch1.of_below HBb.out.2.2).trans hch;refine⟨xs++[[.func (.func (nn 0)) #[] (AA 0),.func (.func (nn 1)) #[] (AA 1),.func (.func (nn 2)) #[] (AA 2),.func (.func (nn 3)) #[] (AA 3),.func (.func (nn 4)) #[] (AA 4),.func (.func (nn 5)) #[] (AA 5),.func (.func (nn 6)) #[] (AA 6),.func (.func (nn 7)) #[] (AA 7),.func (.func (nn 8)) #[] (AA 8),.func (.func (nn 9)) #[] (AA 9)]],by rw [List.length_append,x1];rfl,by rw [List.flatten_append];simpa using hown1,fun x hx=>?_,fun i k hi hk=>?_⟩
    ·rcases List.mem_append.1 hx with hx|hx
     ·exact x3 x hx
     ·rw [List.mem_singleton.1 hx];rfl
    ·rcases lt_or_ge i j with hij|hij
     ·obtain⟨y,e1,e2⟩:=x4 i k hij hk
      exact⟨y,by rw [List.getElem?_append_left (by omega)];exact e1,e2.step hc1⟩
     ·obtain rfl:i=j:=by omega
      rw [HKK.out]at hk;obtain rfl:=Option.some.inj hk;exact⟨_,by rw [List.getElem?_append_right (by omega),x1,Nat.sub_self];rfl,hl.step hc1⟩
   have hB2:Below w.heap.size w w3:=HBb.out.1.grown hgr HBb.out.1.size (fun k hk=>by have:=(World.ownsRow.lt HO.out k hk).1;have:=HS1.out;omega);have hB3:Below w1.heap.size w1 w3:=HBb.out.2.1.grown hgr HBb.out.2.1.size (fun k hk=>(World.ownsRow.lt HO.out k hk).1);clear hch hown1 hgr hor;have HF3:=hid hF;have HB2:=hid hB2;have HB3:=hid hB3;clear hF hB2 hB3;go_wp2_with fail
   go_roundw
   case rel=>exact⟨j+1,HK.out,congrArg (Value.int _) (by omega),HB2,HB3,HF3⟩
   case measure=>simp [intOf];have:=HK.out;omega
  ·have hlt:¬(j:Int)<(n:Int):=by omega
   obtain rfl:j=n:=(by omega);obtain⟨A2,c2,rfl,hp⟩:=HF.out.parts HN.out;have HC2:=hid (HC2.out.below HB1.out HC2.out.lt);have HT:=hid (Qwh hE (fun b=>b=w.heap.size+1) ks HOK.out A2 j c2 _ (hp _ (fun b hb e=>by have:=HS1.out;omega) (fun b x t e hc=>by subst e;exact hc.ne_len HC2.out (show(1:Nat)≠10 by decide) rfl)));clear hp;go_wp2_with fail
   refine HT.out.mono ?_;rintro e w4 ⟨l,rfl,hl,hb1⟩;obtain⟨nn,AA,rfl⟩:=hl.ops.ten;have HB4:=hid (bt HBr.out hb1);have HLT:=hid HC2.out.lt;have HC2:=hid (HC2.out.below hb1 HC2.out.lt);have HO:=hid hl;clear hb1 hl HT;obtain⟨a0,a1,a2,a3,a4,a5,a6,a7,a8,a9⟩:=HC2.out.c10;obtain⟨f0,f1,f2,f3,f4,f5,f6,f7⟩:=HC2.out.f8;have f8:=HC2.out.frozen 8;have f9:=HC2.out.frozen 9;go_wp2_with fail
   refine Qbz (l:=[.func (.func (nn 0)) #[] (AA 0),.func (.func (nn 1)) #[] (AA 1),.func (.func (nn 2)) #[] (AA 2),.func (.func (nn 3)) #[] (AA 3),.func (.func (nn 4)) #[] (AA 4),.func (.func (nn 5)) #[] (AA 5),.func (.func (nn 6)) #[] (AA 6),.func (.func (nn 7)) #[] (AA 7),.func (.func (nn 8)) #[] (AA 8),.func (.func (nn 9)) #[] (AA 9)]) results40 underlying63 (by kernel_rfl) rfl rfl (Qa5 HC2.out rfl _ _ _ _ _ _ _ _ _ _) rfl ?_;exact⟨_,rfl,HO.out _ (ChG.s10 (g:=w.heap.size+1) ⟨rfl,HLT.out⟩ (ChG.of_below (Below.refl _ _)) _ _ _ _ _ _ _ _ _ _),Qav HB4.out (by omega) _ _ _ _ _ _ _ _ _ _⟩
theorem Qmq(hE:EOk E)(r:Rg)(k:Int)(l:List Int)(A:Option Addr)(n c:Nat)(w:World)(h:IntR w l A n c)(hr:ringOf k l=some r):Calls prog 40 #[.agg #[.int .i64 k,.slice A n c]] w (fun e w'=> ∃l:List Value,e=.returned (.tuple #[.agg l.toArray,.bool true])/\Ops E r w' l/\Below w.heap.size w w'):=by
 cases r with
 |one j=>exact Qwo hE j k l A n c w h hr
 |prod ks=>exact Qqw hE ks k l A n c w h hr
variable {E:Rg->World->Value->Value->Value->Prop}
theorem Qxq(hE:EOk E)(r:Rg)(k:Int)(l:List Int)(A:Option Addr)(n c:Nat)(w:World)(hT:Tab w)(h:IntR w l A n c)(hr:ringOf k l=some r):Calls prog 20 #[.agg #[.int .i64 k,.slice A n c]] w (RetX 0 w (dOfW (zeroR r))):=by
 obtain⟨hb0,c1,c2⟩:=blk2 w [.int .i64 k,.slice A n c] [.bool false,.slice none 0 0,.slice none 0 0,.int .i64 0,.bool false,.int .u64 0,.slice none 0 0,.slice none 0 0] 24 32;have HF:=hid (Qmq hE r k l A n c _ (h.below hb0) hr);have HT:=hid hT;clear h hr hT c1;go_enter func20,ntmps20;go_wp2_with fail
 have HS:=hid c2.lt;refine HF.out.mono ?_;rintro e w1 ⟨l2,rfl,hl,hb1⟩;obtain⟨_,_,_,_,_,_,_,_,_,_,rfl,⟨n0,A0,rfl,E0,h0⟩,⟨n1,A1,rfl,E1,h1⟩,⟨n2,A2,rfl,E2,h2⟩,⟨n3,A3,rfl,E3,h3⟩,⟨n4,A4,rfl,E4,h4⟩,⟨n5,A5,rfl,E5,h5⟩,⟨n7,A7,rfl,E7,h7⟩,⟨n6,A6,rfl⟩,⟨n8,A8,rfl⟩,⟨n9,A9,rfl⟩,_⟩:=hl.out;replace hb0:=bt hb0 hb1;replace c2:=c2.below hb1 c2.lt;clear hb1;unfold Ent at E2;have hbl:=blk1 w1 [.func (.func n0) #[] A0,.func (.func n1) #[] A1,.func (.func n2) #[] A2,.func (.func n3) #[] A3,.func (.func n4) #[] A4,.func (.func n5) #[] A5,.func (.func n6) #[] A6,.func (.func n7) #[] A7,.func (.func n8) #[] A8,.func (.func n9) #[] A9] 63;have HZ:=hid (h2 _ hbl.1 #[] _ ⟨rfl,HT.out.below (bt hb0 hbl.1),rfl⟩);rw [Array.empty_append]at HZ;have HB:=hid (bt hb0 hbl.1);have HC:=hid (c2.below hbl.1 c2.lt);have HS2:=hid (Nat.lt_of_lt_of_le c2.lt hbl.1.size);clear h0 h1 h2 h3 h4 h5 h7 hl hbl c2 hb0 HF;go_wp2_with fail
 refine HZ.out.mono ?_;rintro e w3 ⟨l3,rfl,hl,hb1⟩;obtain⟨A',n',c',B',m',e',P',p',r',Q',q',s',rfl,_⟩:=hl.rd.shape;have hb0:=bt HB.out hb1;have c2:=HC.out.below hb1 HC.out.lt;have HL:=hid hl;clear hb1 hl HZ;obtain⟨a0,a1,a2,a3,a4,a5,a6,a7⟩:=c2.c8;obtain⟨f0,f1,f2,f3,f4,f5,f6,f7⟩:=c2.f8;go_wp2_with fail
 refine Qak (l:=[.bool (dOfW (zeroR r)).neg,.slice A' n' c',.slice B' m' e',.int .i64 (dOfW (zeroR r)).c,.bool (dOfW (zeroR r)).i,.int .u64 (dOfW (zeroR r)).s,.slice P' p' r',.slice Q' q' s']) results20 underlying32 (by kernel_rfl) rfl (Qaj c2 rfl _ _ _ _ _ _ _ _) rfl ?_;exact Qd2 HL.out HS2.out (zero_le _) (by omega) hb0 c2 rfl
theorem Qt9(hE:EOk E)(k:Int)(l:List Int)(A:Option Addr)(n c:Nat)(w:World)(h:IntR w l A n c)(hr:(ringOf k l).isSome=false):Calls prog 20 #[.agg #[.int .i64 k,.slice A n c]] w (RetX 0 w blankD):=by
 obtain⟨hb0,c1,c2⟩:=blk2 w [.int .i64 k,.slice A n c] [.bool false,.slice none 0 0,.slice none 0 0,.int .i64 0,.bool false,.int .u64 0,.slice none 0 0,.slice none 0 0] 24 32;have HF:=hid (Qih k l A n c _ (h.below hb0) hr);clear h hr c1;go_enter func20,ntmps20;go_wp2_with fail
 refine HF.out.mono ?_;rintro e w1 ⟨rfl,hb1⟩;replace hb0:=bt hb0 hb1;replace c2:=c2.below hb1 c2.lt;clear hb1;have hbl:=blk1 w1 [.nilFunc,.nilFunc,.nilFunc,.nilFunc,.nilFunc,.nilFunc,.nilFunc,.nilFunc,.nilFunc,.nilFunc] 63;have HB:=hid (bt hb0 hbl.1);have c3:=c2.below hbl.1 c2.lt;clear hbl c2 hb0 HF;obtain⟨a0,a1,a2,a3,a4,a5,a6,a7⟩:=c3.c8;obtain⟨f0,f1,f2,f3,f4,f5,f6,f7⟩:=c3.f8;go_wp2_with fail
 refine Qak (l:=[.bool false,.slice none 0 0,.slice none 0 0,.int .i64 0,.bool false,.int .u64 0,.slice none 0 0,.slice none 0 0]) results20 underlying32 (by kernel_rfl) rfl (Qaj c3 rfl _ _ _ _ _ _ _ _) rfl ?_;rw [<-Qvn];exact Qb8 (by rw [Qvn];exact Qea _) (Qam HB.out (Nat.le_succ _) _ _ _ _ _ _ _ _)
theorem One_o(hE:EOk E)(r:Rg)(k:Int)(l:List Int)(A:Option Addr)(n c:Nat)(w:World)(hT:Tab w)(h:IntR w l A n c)(hr:ringOf k l=some r):Calls prog 22 #[.agg #[.int .i64 k,.slice A n c]] w (RetX 0 w (dOfW (oneR r))):=by
 obtain⟨hb0,c1,c2⟩:=blk2 w [.int .i64 k,.slice A n c] [.bool false,.slice none 0 0,.slice none 0 0,.int .i64 0,.bool false,.int .u64 0,.slice none 0 0,.slice none 0 0] 24 32;have HF:=hid (Qmq hE r k l A n c _ (h.below hb0) hr);have HT:=hid hT;clear h hr hT c1;go_enter func22,ntmps22;go_wp2_with fail
 have HS:=hid c2.lt;refine HF.out.mono ?_;rintro e w1 ⟨l2,rfl,hl,hb1⟩;obtain⟨_,_,_,_,_,_,_,_,_,_,rfl,⟨n0,A0,rfl,E0,h0⟩,⟨n1,A1,rfl,E1,h1⟩,⟨n2,A2,rfl,E2,h2⟩,⟨n3,A3,rfl,E3,h3⟩,⟨n4,A4,rfl,E4,h4⟩,⟨n5,A5,rfl,E5,h5⟩,⟨n7,A7,rfl,E7,h7⟩,⟨n6,A6,rfl⟩,⟨n8,A8,rfl⟩,⟨n9,A9,rfl⟩,_⟩:=hl.out;replace hb0:=bt hb0 hb1;replace c2:=c2.below hb1 c2.lt;clear hb1;unfold Ent at E3;have hbl:=blk1 w1 [.func (.func n0) #[] A0,.func (.func n1) #[] A1,.func (.func n2) #[] A2,.func (.func n3) #[] A3,.func (.func n4) #[] A4,.func (.func n5) #[] A5,.func (.func n6) #[] A6,.func (.func n7) #[] A7,.func (.func n8) #[] A8,.func (.func n9) #[] A9] 63;have HZ:=hid (h3 _ hbl.1 #[] _ ⟨rfl,HT.out.below (bt hb0 hbl.1),rfl⟩);rw [Array.empty_append]at HZ;have HB:=hid (bt hb0 hbl.1);have HC:=hid (c2.below hbl.1 c2.lt);have HS2:=hid (Nat.lt_of_lt_of_le c2.lt hbl.1.size);clear h0 h1 h2 h3 h4 h5 h7 hl hbl c2 hb0 HF;go_wp2_with fail
 refine HZ.out.mono ?_;rintro e w3 ⟨l3,rfl,hl,hb1⟩;obtain⟨A',n',c',B',m',e',P',p',r',Q',q',s',rfl,_⟩:=hl.rd.shape;have hb0:=bt HB.out hb1;have c2:=HC.out.below hb1 HC.out.lt;have HL:=hid hl;clear hb1 hl HZ;obtain⟨a0,a1,a2,a3,a4,a5,a6,a7⟩:=c2.c8;obtain⟨f0,f1,f2,f3,f4,f5,f6,f7⟩:=c2.f8;go_wp2_with fail
 refine Qak (l:=[.bool (dOfW (oneR r)).neg,.slice A' n' c',.slice B' m' e',.int .i64 (dOfW (oneR r)).c,.bool (dOfW (oneR r)).i,.int .u64 (dOfW (oneR r)).s,.slice P' p' r',.slice Q' q' s']) results22 underlying32 (by kernel_rfl) rfl (Qaj c2 rfl _ _ _ _ _ _ _ _) rfl ?_;exact Qd2 HL.out HS2.out (zero_le _) (by omega) hb0 c2 rfl
theorem Qwp(hE:EOk E)(k:Int)(l:List Int)(A:Option Addr)(n c:Nat)(w:World)(h:IntR w l A n c)(hr:(ringOf k l).isSome=false):Calls prog 22 #[.agg #[.int .i64 k,.slice A n c]] w (RetX 0 w blankD):=by
 obtain⟨hb0,c1,c2⟩:=blk2 w [.int .i64 k,.slice A n c] [.bool false,.slice none 0 0,.slice none 0 0,.int .i64 0,.bool false,.int .u64 0,.slice none 0 0,.slice none 0 0] 24 32;have HF:=hid (Qih k l A n c _ (h.below hb0) hr);clear h hr c1;go_enter func22,ntmps22;go_wp2_with fail
 refine HF.out.mono ?_;rintro e w1 ⟨rfl,hb1⟩;replace hb0:=bt hb0 hb1;replace c2:=c2.below hb1 c2.lt;clear hb1;have hbl:=blk1 w1 [.nilFunc,.nilFunc,.nilFunc,.nilFunc,.nilFunc,.nilFunc,.nilFunc,.nilFunc,.nilFunc,.nilFunc] 63;have HB:=hid (bt hb0 hbl.1);have c3:=c2.below hbl.1 c2.lt;clear hbl c2 hb0 HF;obtain⟨a0,a1,a2,a3,a4,a5,a6,a7⟩:=c3.c8;obtain⟨f0,f1,f2,f3,f4,f5,f6,f7⟩:=c3.f8;go_wp2_with fail
 refine Qak (l:=[.bool false,.slice none 0 0,.slice none 0 0,.int .i64 0,.bool false,.int .u64 0,.slice none 0 0,.slice none 0 0]) results22 underlying32 (by kernel_rfl) rfl (Qaj c3 rfl _ _ _ _ _ _ _ _) rfl ?_;rw [<-Qvn];exact Qb8 (by rw [Qvn];exact Qea _) (Qam HB.out (Nat.le_succ _) _ _ _ _ _ _ _ _)
theorem Qua(hE:EOk E)(r:Rg)(k:Int)(l:List Int)(A:Option Addr)(n c:Nat)(w:World)(hT:Tab w)(h:IntR w l A n c)(hr:ringOf k l=some r)(d:WD)(x:List Value)(V:Bool)(hx:WRd w x d)(sd:SzK d)(H:Hid (tv (chkR r d)=V)):Calls prog 16 #[.agg #[.int .i64 k,.slice A n c],.agg x.toArray] w (RetV w (.bool V)):=by
 obtain⟨A1,n1,c1,B1,m1,e1,P1,p1,r1,Q1,q1,s1,rfl,_⟩:=hx.shape;show Calls _ _ #[_,.agg #[.bool d.neg,.slice A1 n1 c1,.slice B1 m1 e1,.int .i64 d.c,.bool d.i,.int .u64 d.s,.slice P1 p1 r1,.slice Q1 q1 s1]] _ _;obtain⟨hb0,k1,k2⟩:=blk2 w [.int .i64 k,.slice A n c] [.bool d.neg,.slice A1 n1 c1,.slice B1 m1 e1,.int .i64 d.c,.bool d.i,.int .u64 d.s,.slice P1 p1 r1,.slice Q1 q1 s1] 24 32;have HF:=hid (Qmq hE r k l A n c _ (h.below hb0) hr);have HT:=hid hT;have HX:=hid hx;clear h hr hT k1 hx;go_enter func16,ntmps16;go_wp2_with fail
 refine HF.out.mono ?_;rintro e w1 ⟨l2,rfl,hl,hb1⟩;obtain⟨_,_,_,_,_,_,_,_,_,_,rfl,⟨n0,A0,rfl,E0,h0⟩,⟨n1,A1,rfl,E1,h1⟩,⟨n2,A2,rfl,E2,h2⟩,⟨n3,A3,rfl,E3,h3⟩,⟨n4,A4,rfl,E4,h4⟩,⟨n5,A5,rfl,E5,h5⟩,⟨n7,A7,rfl,E7,h7⟩,⟨n6,A6,rfl⟩,⟨n8,A8,rfl⟩,⟨n9,A9,rfl⟩,_⟩:=hl.out;replace hb0:=bt hb0 hb1;replace k2:=k2.below hb1 k2.lt;clear hb1;unfold Ent at E0;obtain⟨hbl,k3⟩:=blk1 w1 [.func (.func n0) #[] A0,.func (.func n1) #[] A1,.func (.func n2) #[] A2,.func (.func n3) #[] A3,.func (.func n4) #[] A4,.func (.func n5) #[] A5,.func (.func n6) #[] A6,.func (.func n7) #[] A7,.func (.func n8) #[] A8,.func (.func n9) #[] A9] 63;have hb3:=bt hb0 hbl;have HZ:=hid (h0 _ hbl _ _ ⟨_,d,V,rfl,HT.out.below hb3,HX.out.keep hb3,sd,H,rfl⟩);have HB:=hid hb3;have k2:=k2.below hbl k2.lt;clear h0 h1 h2 h3 h4 h5 h7 hl hbl hb0 hb3 HF;obtain⟨a0,a1,a2,a3,a4,a5,a6,a7⟩:=k2.c8;have x0:=k3.cell (k:=0) rfl;go_wp2_with fail
 refine HZ.out.mono ?_;rintro e w3 ⟨rfl,hb1⟩;go_wp2_with fail
 go_ret;exact⟨rfl,bt HB.out hb1⟩
theorem Qqx(k:Int)(l:List Int)(A:Option Addr)(n c:Nat)(w:World)(h:IntR w l A n c)(hr:(ringOf k l).isSome=false)(d:WD)(x:List Value)(hx:WRd w x d):Calls prog 16 #[.agg #[.int .i64 k,.slice A n c],.agg x.toArray] w (RetV w (.bool false)):=by
 obtain⟨A1,n1,c1,B1,m1,e1,P1,p1,r1,Q1,q1,s1,rfl,_⟩:=hx.shape;show Calls _ _ #[_,.agg #[.bool d.neg,.slice A1 n1 c1,.slice B1 m1 e1,.int .i64 d.c,.bool d.i,.int .u64 d.s,.slice P1 p1 r1,.slice Q1 q1 s1]] _ _;have hb0:=(blk2 w [.int .i64 k,.slice A n c] [.bool d.neg,.slice A1 n1 c1,.slice B1 m1 e1,.int .i64 d.c,.bool d.i,.int .u64 d.s,.slice P1 p1 r1,.slice Q1 q1 s1] 24 32).1;have HF:=hid (Qih k l A n c _ (h.below hb0) hr);clear h hr hx;go_enter func16,ntmps16;go_wp2_with fail
 refine HF.out.mono ?_;rintro e w1 ⟨rfl,hb1⟩;have HB:=hid ((bt hb0 hb1).trans ((blk1 w1 [.nilFunc,.nilFunc,.nilFunc,.nilFunc,.nilFunc,.nilFunc,.nilFunc,.nilFunc,.nilFunc,.nilFunc] 63).1.mono (bt hb0 hb1).size));clear hb1 hb0 HF;go_wp2_with fail
 go_ret;exact⟨rfl,HB.out⟩
theorem Qaq(k:Int)(l:List Int)(A:Option Addr)(n c:Nat)(w:World)(V:Bool)(h:IntR w l A n c)(H:Hid ((ringOf k l).isSome=V)):Calls prog 13 #[.agg #[.int .i64 k,.slice A n c]] w (RetV w (.bool V)):=by
 obtain⟨hb0,c1⟩:=blk1 w [.int .i64 k,.slice A n c] 24;have HN:=hid h.len;have HR:=hid h;clear h;have a0:=c1.cell (k:=0) rfl;have a1:=c1.cell (k:=1) rfl;go_enter func13,ntmps13;by_cases h6:k=6
 ·subst h6
  have HE:Hid ((decide (2<=l.length/\l.length<=3) && l.all okI)=V):=hid (by rw [<-H.out,Qmp]);clear H;by_cases h2:n<2
  ·replace HE:Hid (false=V):=hid (by rw [<-HE.out,decide_eq_false (by have:=HN.out;omega)];rfl)
   have h2':(n:Int)<2:=(by omega);have h2d:decide ((n:Int)<2)=true:=decide_eq_true h2';go_wp2_with fail
   have:=HE.out;subst this;go_ret;exact⟨rfl,hb0⟩
  ·have h2':¬(n:Int)<2:=by omega
   have h2d:decide ((n:Int)<2)=false:=decide_eq_false h2';by_cases h3:3<n
   ·replace HE:Hid (false=V):=hid (by rw [<-HE.out,decide_eq_false (by have:=HN.out;omega)];rfl)
    have h3':(3:Int)<(n:Int):=(by omega);go_wp2_with fail
    have:=HE.out;subst this;go_ret;exact⟨rfl,hb0⟩
   ·have h3':¬(3:Int)<(n:Int):=by omega
    replace HE:Hid (l.all okI=V):=hid (by rw [<-HE.out,decide_eq_true (by have:=HN.out;omega),Bool.true_and]);have HL3:=hid h3;go_wp2_with fail
    have HB:=hid hb0;have HC:=hid c1;clear hb0 a0 a1 c1
    go_loopw [3] (fun i wr=> ∃j:Nat,j<=n/\i=.int .i64 (j:Int)/\Below w.heap.size w wr/\Hid (Cs wr w.heap.size [.int .i64 6,.slice A n c] 24)/\Hid (∀(i:Nat) (x:Int),i<j->l[i]? =some x->okI x=true)) (fun i _=>(n-intOf i).toNat)
    case atStart=>exact⟨0,zero_le _,rfl,HB.out,HC,fun i x hi=>absurd hi (not_lt_zero _)⟩
    case round=>
     obtain⟨j,hj,rfl,hb,HC1,HO⟩:=hrel;have HBr:=hid hb;have a1:=HC1.out.cell (k:=1) rfl;by_cases hjn:j<n
     ·obtain⟨b,o,x,rfl,hbq,hx,hc⟩:=HR.out.at_ hjn
      have hlt:(j:Int)<(n:Int):=(by omega);have hw1:IntKind.i64.wrap ((j:Int)+1)=(j:Int)+1:=IntWalk.i64_in _ (by have:=HL3.out;omega);have hcw:wr.cell? ⟨b,o+j,none⟩=some (.int .i64 x):=(World.cell?_of_block (w:=w) (hb.block b hbq)).trans hc;have HX:=hid hx;have HK:=hid hjn;have h0i:¬(j:Int)<0:=(by omega);clear hb hc hx hbq hjn;by_cases g1:x<1
      ·have g1d:decide (x<1)=true:=decide_eq_true g1
       have HF:Hid (false=V):=hid (by
        rw [<-HE.out];symm;rw [Bool.eq_false_iff];intro hh;have h1:=List.all_eq_true.1 hh x (List.mem_of_getElem? HX.out);unfold okI at h1;simp only [Bool.and_eq_true,decide_eq_true_eq]at h1;omega)
       go_wp2_with fail
       have:=HF.out;subst this;go_ret;exact⟨rfl,HBr.out⟩
      ·have g1d:decide (x<1)=false:=decide_eq_false g1
       by_cases g5:5<x
       ·have HF:Hid (false=V):=hid (by
         rw [<-HE.out];symm;rw [Bool.eq_false_iff];intro hh;have h1:=List.all_eq_true.1 hh x (List.mem_of_getElem? HX.out);unfold okI at h1;simp only [Bool.and_eq_true,decide_eq_true_eq]at h1;omega)
        go_wp2_with fail
        have:=HF.out;subst this;go_ret;exact⟨rfl,HBr.out⟩
       ·go_wp2_with fail
        go_roundw
        case rel=>
         refine⟨j+1,HK.out,congrArg (Value.int _) (by omega),HBr.out,HC1,fun i y hi hy=>?_⟩;rcases lt_or_ge i j with hij|hij
         ·exact HO.out i y hij hy
         ·obtain rfl:i=j:=by omega
          rw [HX.out]at hy;obtain rfl:=Option.some.inj hy;unfold okI;rw [decide_eq_true (by omega),decide_eq_true (by omega)];rfl
        case measure=>simp [intOf];have:=HK.out;omega
     ·have HF:Hid (true=V):=hid (by
       rw [<-HE.out];symm;refine List.all_eq_true.2 (fun x hx=>?_);obtain⟨i,hi⟩:=List.mem_iff_getElem?.1 hx;have:=(List.getElem?_eq_some_iff.1 hi).1;exact HO.out i x (by have:=HN.out;omega) hi)
      have hlt:¬(j:Int)<(n:Int):=(by omega);clear hb HO;go_wp2_with fail
      have:=HF.out;subst this;go_ret;exact⟨rfl,HBr.out⟩
 ·have HE:Hid ((okI k && decide (l.length=0))=V):=hid (by rw [<-H.out,Qpf h6])
  clear H;have g6:(k !=6)=true:=by simpa using h6
  by_cases g1:1<=k
  ·have g1d:decide (1<=k)=true:=decide_eq_true g1
   by_cases g5:k<=5
   ·have g5d:decide (k<=5)=true:=decide_eq_true g5
    by_cases hn:n=0
    ·replace HE:Hid (true=V):=hid (by rw [<-HE.out,decide_eq_true (by have:=HN.out;omega)];unfold okI;rw [g1d,g5d];rfl)
     have g0:((n:Int)==0)=true:=(by rw [hn];rfl);clear hn;go_wp2_with fail
     have:=HE.out;subst this;go_ret;exact⟨rfl,hb0⟩
    ·replace HE:Hid (false=V):=hid (by rw [<-HE.out,decide_eq_false (by have:=HN.out;omega),Bool.and_false])
     have g0:((n:Int)==0)=false:=(by simp;omega);clear hn;go_wp2_with fail
     have:=HE.out;subst this;go_ret;exact⟨rfl,hb0⟩
   ·have g5d:decide (k<=5)=false:=decide_eq_false g5
    replace HE:Hid (false=V):=hid (by rw [<-HE.out];unfold okI;rw [g5d,Bool.and_false];rfl);go_wp2_with fail
    have:=HE.out;subst this;go_ret;exact⟨rfl,hb0⟩
  ·have g1d:decide (1<=k)=false:=decide_eq_false g1
   replace HE:Hid (false=V):=hid (by rw [<-HE.out];unfold okI;rw [g1d];rfl);go_wp2_with fail
   have:=HE.out;subst this;go_ret;exact⟨rfl,hb0⟩
theorem Qf8(k:Int)(l:List Int)(A:Option Addr)(n c:Nat)(w:World)(V:Bool)(h:IntR w l A n c)(H:Hid (decide (l.length<=6)=V)):Calls prog 10 #[.agg #[.int .i64 k,.slice A n c]] w (RetV w (.bool V)):=by
 obtain⟨hb0,c1⟩:=blk1 w [.int .i64 k,.slice A n c] 24;have HN:=hid h.len;have HE:Hid (decide ((n:Int)<=6)=V):=hid (by rw [<-H.out,HN.out];exact decide_eq_decide.2 (by omega));clear h H;have a1:=c1.cell (k:=1) rfl;go_enter func10,ntmps10;by_cases g:(n:Int)<=6
 ·have gd:decide ((n:Int)<=6)=true:=decide_eq_true g
  have HV:Hid (true=V):=hid (by rw [<-HE.out,gd]);go_wp2_with fail
  have:=HV.out;subst this;go_ret;exact⟨rfl,hb0⟩
 ·have gd:decide ((n:Int)<=6)=false:=decide_eq_false g
  have HV:Hid (false=V):=hid (by rw [<-HE.out,gd]);go_wp2_with fail
  have:=HV.out;subst this;go_ret;exact⟨rfl,hb0⟩
theorem Qet(d:WD):lgtD d↔d.ln.length<=3/\d.ld.length<=3/\d.poly.length<=8/\(∀m∈d.poly,m.2.2.1.length<=2/\m.2.2.2.length<=2)/\d.parts.length<=4/\∀x∈d.parts,lgtD x:=by
 cases d with
 |mk neg ln ld kc iv u poly parts=>
 constructor
 ·intro h
  cases h with
  |mk h1 h2 hp hm hn hd=>exact⟨h1,h2,hp,hm,hn,hd⟩
 ·intro⟨h1,h2,hp,hm,hn,hd⟩
  exact .mk h1 h2 hp hm hn hd
def LgtOk(d:WD):Prop:=∀(x:List Value) (w:World) (V:Bool),WRd w x d->Hid (tv (lgtD d)=V)->Calls prog 36 #[.agg x.toArray] w (RetV w (.bool V))
theorem Qqy(d:WD)(IH:∀(j:Nat) (x:WD),d.parts[j]? =some x->LgtOk x):LgtOk d:=by
 intro x w V hx H;obtain⟨A,n,c,B,m,e,P,p,r,Q,q,s,rfl,h1,h2,h3,h4⟩:=hx.shape;cases d with
 |mk neg ln ld kc iv u poly parts=>
 simp only [WD.neg,WD.ln,WD.ld,WD.c,WD.i,WD.s,WD.poly,WD.parts]at*
 show Calls _ _ #[.agg #[.bool neg,.slice A n c,.slice B m e,.int .i64 kc,.bool iv,.int .u64 u,.slice P p r,.slice Q q s]] _ _;obtain⟨hb0,c1⟩:=blk1 w [.bool neg,.slice A n c,.slice B m e,.int .i64 kc,.bool iv,.int .u64 u,.slice P p r,.slice Q q s] 32;obtain⟨V1,hV1⟩:∃V1,(decide (n<=3) && decide (m<=3))=V1:=⟨_,rfl⟩;have HV1:=hid hV1;have HC1:Hid (∀wa,Calls prog 64 #[.agg #[.bool neg,.slice A n c,.slice B m e],.int .i64 3] wa (RetV wa (.bool V1))):=hid (fun wa=>Qso neg A B n c m e 3 wa V1 HV1);have HL:=hid (And.intro h1.len (And.intro h2.len (And.intro h3.len h4.len)));have HP:=hid h3;have HW:=hid h4;have HI:=hid IH;clear hx h1 h2 h3 h4 hV1 IH;go_enter func36,ntmps36;go_wp2_with fail
 refine(HC1.out _).mono ?_;rintro e0 w1 ⟨rfl,hb1⟩;replace hb0:=bt hb0 hb1;replace c1:=c1.below hb1 c1.lt;clear hb1 HC1;cases V1
 ·have HV:Hid (false=V):=hid (by
   rw [<-H.out];exact(Qag (fun h=>by
    have h9:=(Qet _).1 h;simp only [WD.ln,WD.ld]at h9;have:=HV1.out;rw [decide_eq_true (by rw [HL.out.1];exact h9.1),decide_eq_true (by rw [HL.out.2.1];exact h9.2.1)]at this;cases this)).symm)
  go_wp2_with fail
  have:=HV.out;subst this;go_ret;exact⟨rfl,hb0⟩
 have HQL:Hid (n<=3/\m<=3):=hid (by have:=HV1.out;simpa using this);obtain⟨x0,x1,x2,x3,x4,x5,x6,x7⟩:=c1.c8;by_cases g1:p<=8
 case neg=>
  have g1':(8:Int)<(p:Int):=by omega
  have g1d:decide ((8:Int)<(p:Int))=true:=decide_eq_true g1';have HV:Hid (false=V):=hid (by rw [<-H.out];exact(Qag (fun h=>g1 (by rw [HL.out.2.2.1];exact((Qet _).1 h).2.2.1))).symm);go_wp2_with fail
  have:=HV.out;subst this;go_ret;exact⟨rfl,hb0⟩
 have g1':¬(8:Int)<(p:Int):=by omega
 have g1d:decide ((8:Int)<(p:Int))=false:=decide_eq_false g1';by_cases g2:q<=4
 case neg=>
  have g2':(4:Int)<(q:Int):=by omega
  have g2d:decide ((4:Int)<(q:Int))=true:=decide_eq_true g2';have HV:Hid (false=V):=hid (by rw [<-H.out];exact(Qag (fun h=>g2 (by rw [HL.out.2.2.2];exact((Qet _).1 h).2.2.2.2.1))).symm);go_wp2_with fail
  have:=HV.out;subst this;go_ret;exact⟨rfl,hb0⟩
 have g2':¬(4:Int)<(q:Int):=by omega
 have g2d:decide ((4:Int)<(q:Int))=false:=decide_eq_false g2';have HG:=hid (And.intro g1 g2);clear g1 g2;go_wp2_with fail
 have HB0:=hid hb0;have HC:=hid c1;clear x0 x1 x2 x3 x4 x5 x6 x7 hb0 c1 g1' g1d g2' g2d
 go_loopw [3] (fun i wr=> ∃j:Nat,j<=p/\i=.int .i64 (j:Int)/\Below w1.heap.size w1 wr/\Hid (∀(i:Nat) (y:FldM),i<j->poly[i]? =some y->y.2.2.1.length<=2/\y.2.2.2.length<=2)) (fun i _=>(p-intOf i).toNat)
 case atStart=>exact⟨0,zero_le _,rfl,Below.refl _ _,fun i y hi=>absurd hi (not_lt_zero _)⟩
 case round=>
  obtain⟨j,hj,rfl,hb,HO⟩:=hrel;have hb2:=bt HB0.out hb;have HB2:=hid hb2;have x6:=(HC.out.below hb HC.out.lt).cell (k:=6) rfl;have x7:=(HC.out.below hb HC.out.lt).cell (k:=7) rfl;by_cases hjn:j<p
  ·have hlt:(j:Int)<(p:Int):=by omega
   have h0i:¬(j:Int)<0:=(by omega);have hw1:IntKind.i64.wrap ((j:Int)+1)=(j:Int)+1:=IntWalk.i64_in _ (by have:=HG.out.1;omega);obtain⟨y,hy⟩:∃y,poly[j]? =some y:=⟨poly[j]'(by have:=HL.out.2.2.1;omega),List.getElem?_eq_getElem _⟩;obtain⟨b,o,Ay,cy,By,ey,rfl,hbq,hat,hN,hD⟩:=HP.out.at6n hy;obtain⟨y0,y1,y2,y3,y4,y5⟩:=hat.below hb2 hbq;obtain⟨Vr,hVr⟩:∃Vr,(decide (y.2.2.1.length<=2) && decide (y.2.2.2.length<=2))=Vr:=⟨_,rfl⟩;have HVr:=hid hVr;have HCL:Hid (∀wa,Calls prog 64 #[.agg #[.bool y.2.1,.slice Ay y.2.2.1.length cy,.slice By y.2.2.2.length ey],.int .i64 2] wa (RetV wa (.bool Vr))):=hid (fun wa=>Qso y.2.1 Ay By y.2.2.1.length cy y.2.2.2.length ey 2 wa Vr HVr);have HK:=hid hjn;have HY:=hid hy;have HBR:=hid hb;clear hb hb2 hVr hjn hy hat hN hD hbq;go_wp2_with fail
   refine(HCL.out _).mono ?_;rintro e0 w2 ⟨rfl,hb1⟩;have HB1:=hid (bt HBR.out hb1);clear hb1 HCL;cases Vr
   ·have HV:Hid (false=V):=hid (by
     rw [<-H.out];exact(Qag (fun h=>by
      have h9:=((Qet _).1 h).2.2.2.1 y (List.mem_of_getElem? HY.out);have:=HVr.out;rw [decide_eq_true h9.1,decide_eq_true h9.2]at this;cases this)).symm)
    have HEND:=hid (bt HB0.out HB1.out);go_wp2_with fail
    have:=HV.out;subst this;go_ret;exact⟨rfl,HEND.out⟩
   ·go_wp2_with fail
    go_roundw
    case rel=>
     refine⟨j+1,HK.out,congrArg (Value.int _) (by omega),HB1.out,fun i z hi hz=>?_⟩;rcases lt_or_ge i j with hij|hij
     ·exact HO.out i z hij hz
     ·obtain rfl:i=j:=by omega
      rw [HY.out]at hz;obtain rfl:=Option.some.inj hz;have:=HVr.out
      simpa using this
    case measure=>simp [intOf];have:=HK.out;omega
  ·have hlt:¬(j:Int)<(p:Int):=by omega
   have HM:Hid (∀y∈poly,y.2.2.1.length<=2/\y.2.2.2.length<=2):=hid (fun y hy=>by
    obtain⟨i,hi⟩:=List.mem_iff_getElem?.1 hy;have:=(List.getElem?_eq_some_iff.1 hi).1;exact HO.out i y (by have:=HL.out.2.2.1;omega) hi)
   have HBR:=hid hb;clear hb hb2 HO;go_wp2_with fail
   clear x6 x7
   go_loopw [4] (fun i wr2=> ∃j:Nat,j<=q/\i=.int .i64 (j:Int)/\Below wr.heap.size wr wr2/\Hid (∀(i:Nat) (y:WD),i<j->parts[i]? =some y->lgtD y)) (fun i _=>(q-intOf i).toNat)
   case atStart=>exact⟨0,zero_le _,rfl,Below.refl _ _,fun i y hi=>absurd hi (not_lt_zero _)⟩
   case round=>
    obtain⟨t,ht,rfl,hb,HO⟩:=hrel;have hb3:=bt HBR.out hb;have hb2:=bt HB0.out hb3;have HB3:=hid hb2;have x7:=(HC.out.below hb3 HC.out.lt).cell (k:=7) rfl;by_cases htq:t<q
    ·have hlt2:(t:Int)<(q:Int):=by omega
     have h0i:¬(t:Int)<0:=(by omega);have hw1:IntKind.i64.wrap ((t:Int)+1)=(t:Int)+1:=IntWalk.i64_in _ (by have:=HG.out.2;omega);obtain⟨y,hy⟩:∃y,parts[t]? =some y:=⟨parts[t]'(by have:=HL.out.2.2.2;omega),List.getElem?_eq_getElem _⟩;obtain⟨b,o,A3,n3,c3,B3,m3,e3,P3,p3,r3,Q3,q3,s3,rfl,hvb,hwv,hatv⟩:=HW.out.at8 hy;obtain⟨y0,y1,y2,y3,y4,y5,y6,y7⟩:=hatv.below hb2 hvb;obtain⟨Vr,hVr⟩:∃Vr,tv (lgtD y)=Vr:=⟨_,rfl⟩;have HVr:=hid hVr;have HCL:Hid (Calls prog 36 #[.agg #[.bool y.neg,.slice A3 n3 c3,.slice B3 m3 e3,.int .i64 y.c,.bool y.i,.int .u64 y.s,.slice P3 p3 r3,.slice Q3 q3 s3]] wr (RetV wr (.bool Vr))):=hid (HI.out t y hy _ wr Vr (hwv.keep hb2) HVr);have HK:=hid htq;have HY:=hid hy;have HBT:=hid hb;clear hb hb2 hb3 hVr htq hy hatv hwv hvb hlt;go_wp2_with fail
     refine HCL.out.mono ?_;rintro e0 w2 ⟨rfl,hb1⟩;have HB1:=hid (bt HBT.out hb1);have HEND:=hid (bt HB3.out hb1);clear hb1 HCL;cases Vr
     ·have HV:Hid (false=V):=hid (by
       rw [<-H.out];exact(Qag (fun h=>by
        have h9:=((Qet _).1 h).2.2.2.2.2 y (List.mem_of_getElem? HY.out);have:=HVr.out;rw [Qbf h9]at this;cases this)).symm)
      go_wp2_with fail
      have:=HV.out;subst this;go_ret;exact⟨rfl,HEND.out⟩
     ·go_wp2_with fail
      go_roundw
      case rel=>
       refine⟨t+1,HK.out,congrArg (Value.int _) (by omega),HB1.out,fun i z hi hz=>?_⟩;rcases lt_or_ge i t with hij|hij
       ·exact HO.out i z hij hz
       ·obtain rfl:i=t:=by omega
        rw [HY.out]at hz;obtain rfl:=Option.some.inj hz;exact Qce.1 HVr.out
      case measure=>simp [intOf];have:=HK.out;omega
    ·have hlt2:¬(t:Int)<(q:Int):=by omega
     have HV:Hid (true=V):=hid (by
      rw [<-H.out];exact(Qbf ((Qet (WD.mk neg ln ld kc iv u poly parts)).2 ⟨by have:=HL.out.1;have:=HQL.out.1;show ln.length<=3;omega,by have:=HL.out.2.1;have:=HQL.out.2;show ld.length<=3;omega,by have:=HL.out.2.2.1;have:=HG.out.1;show poly.length<=8;omega,HM.out,by have:=HL.out.2.2.2;have:=HG.out.2;show parts.length<=4;omega,fun y hy=>by
       obtain⟨i,hi⟩:=List.mem_iff_getElem?.1 (show y∈parts from hy);have:=(List.getElem?_eq_some_iff.1 hi).1;exact HO.out i y (by have:=HL.out.2.2.2;omega) hi⟩)).symm)
     clear hb hb2 hb3 HO hlt;go_wp2_with fail
     have:=HV.out;subst this;go_ret;exact⟨rfl,HB3.out⟩
theorem Qub:∀(N:Nat) (d:WD),SizeOf.sizeOf d<=N->LgtOk d
 |0,d,h=>by cases d;simp only [WD.mk.sizeOf_spec]at h;omega
 |N+1,d,h=>Qqy d (fun j x hx=>Qub N x (by have:=WD.parts_lt (List.mem_of_getElem? hx);omega))
theorem Qmr(d:WD)(x:List Value)(w:World)(V:Bool)(hx:WRd w x d)(H:Hid (tv (lgtD d)=V)):Calls prog 36 #[.agg x.toArray] w (RetV w (.bool V)):=Qub _ d (Nat.le_refl _) x w V hx H
theorem Qms(k:Int)(l:List Int)(A:Option Addr)(n c:Nat)(d d2:WD)(x y:List Value)(w:World)(V:Bool)(h:IntR w l A n c)(hx:WRd w x d)(hy:WRd w y d2)(H:Hid (tv (l.length<=6/\lgtD d/\lgtD d2)=V)):Calls prog 9 #[.agg #[.int .i64 k,.slice A n c],.agg x.toArray,.agg y.toArray] w (RetV w (.bool V)):=by
 have HX:=hid hx;have HY:=hid hy;obtain⟨A1,n1,c1,B1,m1,e1,P1,p1,r1,Q1,q1,s1,rfl,_⟩:=hx.shape;obtain⟨A2,n2,c2,B2,m2,e2,P2,p2,r2,Q2,q2,s2,rfl,_⟩:=hy.shape;show Calls _ _ #[_,.agg #[.bool d.neg,.slice A1 n1 c1,.slice B1 m1 e1,.int .i64 d.c,.bool d.i,.int .u64 d.s,.slice P1 p1 r1,.slice Q1 q1 s1],.agg #[.bool d2.neg,.slice A2 n2 c2,.slice B2 m2 e2,.int .i64 d2.c,.bool d2.i,.int .u64 d2.s,.slice P2 p2 r2,.slice Q2 q2 s2]] _ _;obtain⟨hb0,k1,k2,k3⟩:=blk3 w [.int .i64 k,.slice A n c] [.bool d.neg,.slice A1 n1 c1,.slice B1 m1 e1,.int .i64 d.c,.bool d.i,.int .u64 d.s,.slice P1 p1 r1,.slice Q1 q1 s1] [.bool d2.neg,.slice A2 n2 c2,.slice B2 m2 e2,.int .i64 d2.c,.bool d2.i,.int .u64 d2.s,.slice P2 p2 r2,.slice Q2 q2 s2] 24 32 32;obtain⟨V1,hV1⟩:∃V,decide (l.length<=6)=V:=⟨_,rfl⟩;obtain⟨V2,hV2⟩:∃V,tv (lgtD d)=V:=⟨_,rfl⟩;obtain⟨V3,hV3⟩:∃V,tv (lgtD d2)=V:=⟨_,rfl⟩;have HE:Hid ((V1 && (V2 && V3))=V):=hid (by
  rw [<-H.out,Qjc,Qjc,hV2,hV3,<-hV1]
  congr 1
  exact(Qkb Iff.rfl).symm.trans (by
   by_cases h:l.length<=6
   ·rw [Qbf h,decide_eq_true h]
   ·rw [Qag h,decide_eq_false h])|>.symm)
 have HV1:=hid hV1;have HV2:=hid hV2;have HV3:=hid hV3;have HC:=hid (Qf8 k l A n c _ V1 (h.below hb0) HV1);clear h hx hy hV1 hV2 hV3 H;go_enter func9,ntmps9;go_wp2_with fail
 refine HC.out.mono ?_;rintro e0 w1 ⟨rfl,hb1⟩;replace hb0:=bt hb0 hb1;replace k2:=k2.below hb1 k2.lt;replace k3:=k3.below hb1 k3.lt;clear hb1 HC k1;cases V1
 ·replace HE:Hid (false=V):=HE
  go_wp2_with fail
  have:=HE.out;subst this;go_ret;exact⟨rfl,hb0⟩
 obtain⟨x0,x1,x2,x3,x4,x5,x6,x7⟩:=k2.c8;have HC:=hid (Qmr d _ w1 V2 (HX.out.keep hb0) HV2);go_wp2_with fail
 refine HC.out.mono ?_;rintro e0 w2 ⟨rfl,hb1⟩;replace hb0:=bt hb0 hb1;replace k3:=k3.below hb1 k3.lt;clear hb1 HC k2 x0 x1 x2 x3 x4 x5 x6 x7;cases V2
 ·replace HE:Hid (false=V):=HE
  go_wp2_with fail
  have:=HE.out;subst this;go_ret;exact⟨rfl,hb0⟩
 replace HE:Hid (V3=V):=HE;obtain⟨x0,x1,x2,x3,x4,x5,x6,x7⟩:=k3.c8;have HC:=hid (Qmr d2 _ w2 V3 (HY.out.keep hb0) HV3);go_wp2_with fail
 refine HC.out.mono ?_;rintro e0 w3 ⟨rfl,hb1⟩;replace hb0:=bt hb0 hb1;go_wp2_with fail
 have:=HE.out;subst this;go_ret;exact⟨rfl,hb0⟩
theorem Qqz(A A':Option Addr)(n c m c':Nat)(l r:List Int)(w:World)(V:Bool)(hx:IntR w l A n c)(hy:IntR w r A' m c')(hn:n<=1000)(H:Hid (decide (l=r)=V)):
 Calls prog 39 #[.slice A n c,.slice A' m c'] w (RetQ w (.bool V)):=by
 have HLX:=hid hx.len;have HLY:=hid hy.len;by_cases hnm:n=m
 ·subst hnm
  have h1:((n:Int) !=n)=false:=by simp
  go_enter func39,ntmps39;go_wp2_with fail
  go_loopw [13] (fun i wr=> ∃k q:Nat,k<=n/\i=.int .i64 (k:Int)/\wr=w.drewN q/\Hid (∀j,j<k->l[j]? =r[j]?)) (fun i _=>(n-intOf i).toNat)
  case atStart=>exact⟨0,0,zero_le _,rfl,rfl,show Hid _ from fun j h1=>by omega⟩
  case round=>
   obtain⟨k,q,hk,rfl,rfl,HE⟩:=hrel;rcases lt_or_ge k n with hkn|hkn
   ·obtain⟨b,o,x,rfl,_,hx',hcx⟩:=hx.at_ hkn
    obtain⟨b',o',y,rfl,_,hy',hcy⟩:=hy.at_ hkn;have hkn2:(k:Int)<(n:Int):=(by omega);have HX:=hid hx';have HY:=hid hy';have LX:=hid hx;have LY:=hid hy;clear hx' hy' hx hy;by_cases hxy:x=y
    ·have hne:(x !=y)=false:=by simp [hxy]
     have hne2:(y !=y)=false:=(by simp);subst hxy;go_wp2_with fail
     go_quiet (fail)
     go_wp2_with fail
     go_roundw
     case rel=>exact⟨k+1,_,by omega,congrArg (Value.int _) (by omega),rfl,show Hid _ from fun i hi1=>by
      rcases Nat.lt_or_eq_of_le (Nat.le_of_lt_succ hi1)with hi|hi
      ·exact HE.out i hi
      ·subst hi;rw [HX.out,HY.out]⟩
     case measure=>simp [intOf];omega
    ·have hne:(x !=y)=true:=by simp [hxy]
     go_wp2_with fail
     go_quiet (fail)
     go_wp2_with fail
     go_ret;refine⟨Qal ?_,draws2 ..⟩;rw [<-H.out];exact(decide_eq_false (fun h=>hxy (by have h1:=HX.out;rw [h,HY.out]at h1;exact(Option.some.inj h1).symm))).symm
   ·have hlt:¬(k:Int)<(n:Int):=by omega
    go_wp2_with fail
    go_ret;refine⟨Qal ?_,q,rfl⟩;rw [<-H.out];exact(decide_eq_true (List.ext_getElem? (fun j=>by
     rcases lt_or_ge j k with hjk|hjk
     ·exact HE.out j hjk
     ·rw [List.getElem?_eq_none (by have:=HLX.out;omega),List.getElem?_eq_none (by have:=HLY.out;omega)]))).symm
 ·have h1:((n:Int) !=m)=true:=by simp;omega
  go_enter func39,ntmps39;go_wp2_with fail
  go_ret;refine⟨Qal ?_,0,rfl⟩;rw [<-H.out];exact(decide_eq_false (fun h=>hnm (by rw [HLX.out,HLY.out,h]))).symm
def sameB(k k':Int)(l l':List Int):Bool:=decide (k=k') && decide (l=l')
theorem Same_o(k k':Int)(l l':List Int)(A A':Option Addr)(n c n' c':Nat)(w:World)(V:Bool)(h:IntR w l A n c)(h':IntR w l' A' n' c')(hn:n<=1000)(H:Hid (sameB k k' l l'=V)):Calls prog 14 #[.agg #[.int .i64 k,.slice A n c],.agg #[.int .i64 k',.slice A' n' c']] w (RetV w (.bool V)):=by
 obtain⟨hb0,c1,c2⟩:=blk2 w [.int .i64 k,.slice A n c] [.int .i64 k',.slice A' n' c'] 24 24;have a0:=c1.cell (k:=0) rfl;have a1:=c1.cell (k:=1) rfl;have b0:=c2.cell (k:=0) rfl;have b1:=c2.cell (k:=1) rfl;by_cases g:k=k'
 ·subst g
  have g0:(k==k)=true:=by simp
  have HE:Hid (decide (l=l')=V):=hid (by rw [<-H.out];unfold sameB;rw [decide_eq_true (rfl:k=k),Bool.true_and]);have HC:=hid (Qqz A A' n c n' c' l l' _ V (h.below hb0) (h'.below hb0) hn HE);clear H HE h h';go_enter func14,ntmps14;go_wp2_with fail
  refine HC.out.mono ?_;rintro e0 w1 ⟨rfl,q,rfl⟩;have hb1:=Qah hb0 q;go_wp2_with fail
  go_ret;exact⟨rfl,hb1⟩
 ·have g0:(k==k')=false:=by simpa using g
  have HE:Hid (false=V):=hid (by rw [<-H.out];unfold sameB;rw [decide_eq_false g];rfl);clear H g h h';go_enter func14,ntmps14;go_wp2_with fail
  have:=HE.out;subst this;go_ret;exact⟨rfl,hb0⟩
theorem Qza(k k':Int)(l l':List Int)(A A':Option Addr)(n c n' c':Nat)(w:World)(V:Bool)(h:IntR w l A n c)(h':IntR w l' A' n' c')(hn:n<=1000)(H:Hid (sameB k k' l l'=V)):Calls prog 15 #[.agg #[.int .i64 k,.slice A n c],.agg #[.int .i64 k',.slice A' n' c']] w (RetV w (.bool V)):=by
 obtain⟨hb0,c1,c2⟩:=blk2 w [.int .i64 k,.slice A n c] [.int .i64 k',.slice A' n' c'] 24 24;have a0:=c1.cell (k:=0) rfl;have a1:=c1.cell (k:=1) rfl;have b0:=c2.cell (k:=0) rfl;have b1:=c2.cell (k:=1) rfl;have HLX:=hid h.len;have HLY:=hid h'.len;go_enter func15,ntmps15;by_cases g:k=k'
 case neg=>
  have g0:(k !=k')=true:=by simpa using g
  have HE:Hid (false=V):=hid (by rw [<-H.out];unfold sameB;rw [decide_eq_false g];rfl);clear H g h h';go_wp2_with fail
  have:=HE.out;subst this;go_ret;exact⟨rfl,hb0⟩
 subst g;have g0:(k !=k)=false:=by simp
 have HE:Hid (decide (l=l')=V):=hid (by rw [<-H.out];unfold sameB;rw [decide_eq_true (rfl:k=k),Bool.true_and]);clear H;by_cases hnm:n=n'
 case neg=>
  have g1:((n:Int) !=n')=true:=by simp;omega
  replace HE:Hid (false=V):=hid (by rw [<-HE.out];exact(decide_eq_false (fun e=>hnm (by rw [HLX.out,HLY.out,e]))).symm);clear hnm h h';go_wp2_with fail
  have:=HE.out;subst this;go_ret;exact⟨rfl,hb0⟩
 subst hnm;have g1:((n:Int) !=n)=false:=by simp
 have HX:=hid (h.below hb0);have HY:=hid (h'.below hb0);clear h h';go_wp2_with fail
 generalize ((w.alloc (.cells #[.int .i64 k,.slice A n c] 24)).alloc (.cells #[.int .i64 k,.slice A' n c'] 24))=W0 at*
 have HB:=hid hb0;have HC1:=hid c1;have HC2:=hid c2;clear hb0 c1 c2 a0 b0
 go_loopw [5] (fun i wr=> ∃j q:Nat,j<=n/\i=.int .i64 (j:Int)/\wr=W0.drewN q/\Hid (∀i,i<j->l[i]? =l'[i]?)) (fun i _=>(n-intOf i).toNat)
 case atStart=>exact⟨0,0,zero_le _,rfl,rfl,show Hid _ from fun j h1=>by omega⟩
 case round=>
  obtain⟨j,q,hj,rfl,rfl,HO⟩:=hrel;by_cases hjn:j<n
  ·obtain⟨b,o,x,rfl,_,hx',hcx⟩:=HX.out.at_ hjn
   obtain⟨b',o',y,rfl,_,hy',hcy⟩:=HY.out.at_ hjn;have hlt:(j:Int)<(n:Int):=(by omega);have h0i:¬(j:Int)<0:=(by omega);have hw1:IntKind.i64.wrap ((j:Int)+1)=(j:Int)+1:=IntWalk.i64_in _ (by omega);have HGX:=hid hx';have HGY:=hid hy';have HK:=hid hjn;clear hx' hy' hjn;by_cases hxy:x=y
   ·subst hxy
    have hne:(x !=x)=false:=(by simp);go_wp2_with fail
    go_quiet (fail)
    go_wp2_with fail
    go_roundw
    case rel=>exact⟨j+1,_,HK.out,congrArg (Value.int _) (by omega),rfl,show Hid _ from fun i hi1=>by
     rcases Nat.lt_or_eq_of_le (Nat.le_of_lt_succ hi1)with hi|hi
     ·exact HO.out i hi
     ·subst hi;rw [HGX.out,HGY.out]⟩
    case measure=>simp [intOf];have:=HK.out;omega
   ·have hne:(x !=y)=true:=by simpa using hxy
    replace HE:Hid (false=V):=hid (by rw [<-HE.out];exact(decide_eq_false (fun e=>hxy (by have h1:=HGX.out;rw [e,HGY.out]at h1;exact(Option.some.inj h1).symm))).symm);clear hxy;go_wp2_with fail
    go_quiet (fail)
    go_wp2_with fail
    have:=HE.out;subst this;go_ret;exact⟨rfl,Qah (Qah HB.out _) _⟩
  ·have hlt:¬(j:Int)<(n:Int):=by omega
   replace HE:Hid (true=V):=hid (by
    rw [<-HE.out];exact(decide_eq_true (List.ext_getElem? (fun i=>by
     rcases lt_or_ge i j with hij|hij
     ·exact HO.out i hij
     ·rw [List.getElem?_eq_none (by have:=HLX.out;omega),List.getElem?_eq_none (by have:=HLY.out;omega)]))).symm)
   clear HO;go_wp2_with fail
   have:=HE.out;subst this;go_ret;exact⟨rfl,Qah HB.out _⟩
end Go.Proofs.YthbhgelncdnmgaaGreatDoor
