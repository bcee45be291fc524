import Derived.Test.YthbhgelncdnmgaaGreatDoorY33
import Derived.Test.YthbhgelncdnmgaaGreatDoorY12
import Derived.Laws.IdiomStrings
set_option linter.unusedVariables false
set_option linter.unusedSimpArgs false
set_option maxRecDepth 20000
set_option maxHeartbeats 2000000
namespace Go.Proofs.YthbhgelncdnmgaaGreatDoor
open Go.Proofs.Tryz
open Lib (hid)
open Nat (le_trans le_of_lt)
open Go.RowKit
def fmtQ(q:Rat):List UInt8:=(if q.num<0 then [45]else [])++Lib.decDigits q.num.natAbs++(if q.den=1 then []else 47::Lib.decDigits q.den)
theorem Qo7:Lib.decDigits 0=[48]:=by rw [Lib.decDigits,dif_pos (by decide)];rfl
theorem Ql4(k:Nat):∀X,X<10^k->(Lib.decDigits X).length<=k+1:=by
 induction k with
 |zero=>intro X h;have:X=0:=by simpa using h
        rw [this,Qo7];simp
 |succ k ih=>
  intro X h;by_cases h10:X<10
  ·rw [Lib.decDigits,dif_pos h10];simp
  ·rw [Qdt h10,List.length_append]
   have:=ih (X / 10) (by rw [Nat.pow_succ]at h;omega);have h1:([UInt8.ofNat (48+X%10)]:List UInt8).length=1:=rfl;omega
theorem Ql5{X k:Nat}(h:(limbs X).length<=k):(Lib.decDigits X).length<=10*k+1:=by
 refine Ql4 _ _ (Nat.lt_of_lt_of_le (Qap X) (le_trans (Qjl h) ?_));unfold P;rw [Nat.pow_mul];exact Nat.pow_le_pow_left (by decide) k
theorem Ql6{w:World}{B:Nat}{v:Value}{l:List UInt8}(h:OwnB w B v l)(hl:l≠[]):∃g cap,v=.slice (some ⟨g,0,none⟩) l.length cap/\
 (convert 137 9 (.slice (some ⟨g,0,none⟩) l.length cap)).run prog w=.ok (.string ⟨l.toArray⟩) w:=by
 rcases h.2 with⟨rfl,hn⟩|⟨g,cap,cur,rfl,_,h3,_,_,_,h7⟩
 ·exact absurd (List.eq_nil_of_length_eq_zero hn) hl
 ·refine⟨g,cap,rfl,?_⟩
  refine run_convert_bytes_back (P:=prog) w 137 9 5 ⟨g,0,none⟩ cap l underlying137 (by kernel_rfl) (by kernel_rfl) (fun j hj=>?_);have e:(⟨g,0,none⟩:Addr).add j=⟨g,j,none⟩:=by simp [Addr.add];omega
  rw [e,cell_of_row w g j _ _ _ h3];have h8:(cur.toList.take (l.length*1))[j]? =(Lib.byteCells l)[j]? :=by rw [h7]
  rw [List.getElem?_take_of_lt (by omega)]at h8;simp only [Array.getElem?_toList]at h8;rw [h8];simp [Lib.byteCells,hj]
theorem Qjh{B:Nat}{w w':World}(h:Below B w w')(e:w.heap.size=B):B<=w'.heap.size:=by have:=h.size;omega
structure Sm (q:Rat):Prop where
 sz:Sz q 10000
 num:q.num.natAbs<1000000000
 den:q.den<1000000000
theorem Qd1(B X n c:Nat)(A:Option Addr)(v:Value)(l:List UInt8)(w:World)(HT:Hid (∀W,Below B w W->TxF W))(hown:OwnB w B v l)(hB:B<=w.heap.size)(hl:l.length<=1000000)(hx:Num w (limbs X) A n c)(hn:n<=1000000)(h9:X<1000000000):
 Calls prog 179 #[v,.slice A n c] w (RetTx w B (l++Lib.decDigits X)):=by
 by_cases h0:X=0
 ·subst h0
  have hn0:n=0:=by rw [hx.len,Qaf];rfl
  subst hn0;rw [Qo7];exact Qf2 B c A v l w hown hB hl
 ·exact Qfg B X n c A v l w HT hown hB (by omega) hx hn h0 h9
theorem Qkh(v:Value)(q:Rat)(L:Nat)(w:World)(hT:TxF w)(h:Inp w v q L)(hS:Sm q):Calls prog 136 #[v] w (RetV w (.string ⟨(fmtQ q).toArray⟩)):=by
 have HS9:=hid (And.intro hS.num hS.den);obtain⟨z0,Z,zn,zc,Z',zm,ze,rfl⟩:=h.agg;have hbA:Below w.heap.size w (w.alloc (R1 (.bool z0) (.slice Z zn zc) (.slice Z' zm ze))):=(Below.refl _ _).alloc (Nat.le_refl _) _;have hrx:=Rc.new w (.bool z0) (.slice Z zn zc) (.slice Z' zm ze);go_enter func136,ntmps136;go_wp2_with fail
 refine(Qb4 _ q L _ (hT.tab.below hbA) (h.below hbA)).mono ?_;rintro e w1 ⟨v1,rfl,h1,hb1⟩;have hrx1:=hrx.below hb1 hrx.lt;obtain⟨nb,A,n,c,A',m,c',rfl⟩:=h1.agg;obtain⟨k0,k1,k2⟩:=hrx1.cells;obtain⟨f0,f1,f2⟩:=hrx1.frozen;obtain⟨hnb,hN,hD⟩:=h1.parts;have hb01:=bt hbA hb1;have hrx2:=hrx1.set (.bool nb) (.slice A n c) (.slice A' m c');have hN2:=hN.set3 (hN.ne_rc hrx1) (.bool nb) (.slice A n c) (.slice A' m c');have hD2:=hD.set3 (hD.ne_rc hrx1) (.bool nb) (.slice A n c) (.slice A' m c');have hb02:=Qai hb01 (Nat.le_refl _) (.bool nb) (.slice A n c) (.slice A' m c');have hT2:=hT.below hb02;have hnl:n<=10000:=by rw [hN.len];exact hS.sz.1
 have hml:m<=10000:=by rw [hD.len];exact le_trans (Qbd _) hS.sz.2
 have HNB:=hid hnb;clear hnb h1;have hBs:(((w1.setCell ⟨w.heap.size,0,none⟩ (.bool nb)).setCell ⟨w.heap.size,1,none⟩ (.slice A n c)).setCell ⟨w.heap.size,2,none⟩ (.slice A' m c')).heap.size=w1.heap.size:=Qr4 _ _ _ _ _;have HBS:=hid hBs;clear hBs;cases nb
 case' false=>
  obtain⟨l0,hl0⟩:∃l0,(if q.num<0 then [45]else([]:List UInt8))=l0:=⟨_,rfl⟩;have hl01:l0=[]:=by
   have:¬q.num<0:=of_decide_eq_false HNB.out.symm;rw [<-hl0,if_neg this]
  have HL0:=hid hl0;clear hl0;go_wp2_with fail
  have hown3:OwnB (((w1.setCell ⟨w.heap.size,0,none⟩ (.bool false)).setCell ⟨w.heap.size,1,none⟩ (.slice A n c)).setCell ⟨w.heap.size,2,none⟩ (.slice A' m c')) w1.heap.size (.slice none 0 0) l0:=by rw [hl01];exact OwnB.nil _ _
  have HT3:Hid (∀W,Below w1.heap.size (((w1.setCell ⟨w.heap.size,0,none⟩ (.bool false)).setCell ⟨w.heap.size,1,none⟩ (.slice A n c)).setCell ⟨w.heap.size,2,none⟩ (.slice A' m c')) W->TxF W):=fun W h=>hT2.below (h.mono (Nat.le_of_eq HBS.out))
  have hsz3:w1.heap.size<=(((w1.setCell ⟨w.heap.size,0,none⟩ (.bool false)).setCell ⟨w.heap.size,1,none⟩ (.slice A n c)).setCell ⟨w.heap.size,2,none⟩ (.slice A' m c')).heap.size:=Nat.le_of_eq HBS.out.symm;have hrx3:=hrx2;have hN3:=hN2;have HD3:Hid (∀W,Below w1.heap.size (((w1.setCell ⟨w.heap.size,0,none⟩ (.bool false)).setCell ⟨w.heap.size,1,none⟩ (.slice A n c)).setCell ⟨w.heap.size,2,none⟩ (.slice A' m c')) W->Num W (dl q.den) A' m c'):=fun W h=>hD2.below (h.mono (Nat.le_of_eq HBS.out))
  have hb03:=hb02;clear HBS;generalize (((w1.setCell ⟨w.heap.size,0,none⟩ (.bool false)).setCell ⟨w.heap.size,1,none⟩ (.slice A n c)).setCell ⟨w.heap.size,2,none⟩ (.slice A' m c'))=W3 at*
 case' true=>
  obtain⟨l0,hl0⟩:∃l0,(if q.num<0 then [45]else([]:List UInt8))=l0:=⟨_,rfl⟩;have hl01:l0=[45]:=by
   have:q.num<0:=of_decide_eq_true HNB.out.symm;rw [<-hl0,if_pos this]
  have HL0:=hid hl0;clear hl0;have hlit:((((w1.setCell ⟨w.heap.size,0,none⟩ (.bool true)).setCell ⟨w.heap.size,1,none⟩ (.slice A n c)).setCell ⟨w.heap.size,2,none⟩ (.slice A' m c')).alloc (.cells #[.int .u8 45] 5)).cell? ⟨w1.heap.size,0,none⟩=some (.int .u8 ((45:UInt8).toNat:Int)):=by
   have:=Boxed.new (((w1.setCell ⟨w.heap.size,0,none⟩ (.bool true)).setCell ⟨w.heap.size,1,none⟩ (.slice A n c)).setCell ⟨w.heap.size,2,none⟩ (.slice A' m c')) 5 (.int .u8 45);rw [HBS.out]at this;exact this.cell
  have hb3a:Below w1.heap.size (((w1.setCell ⟨w.heap.size,0,none⟩ (.bool true)).setCell ⟨w.heap.size,1,none⟩ (.slice A n c)).setCell ⟨w.heap.size,2,none⟩ (.slice A' m c')) ((((w1.setCell ⟨w.heap.size,0,none⟩ (.bool true)).setCell ⟨w.heap.size,1,none⟩ (.slice A n c)).setCell ⟨w.heap.size,2,none⟩ (.slice A' m c')).alloc (.cells #[.int .u8 45] 5)):=(Below.refl _ _).alloc (Nat.le_of_eq HBS.out.symm) _;go_wp2_with (at_builtin;refine Qff rfl (.tmp 8) (.tmp 9) rfl rfl w1.heap.size _ [] 45 rfl (OwnB.nil _ _) w1.heap.size rfl hlit (by simp) (Qjh hb3a HBS.out) ?_)
  intro v3 W3 hown3 hg3;have hb3:=hb3a.grown hg3 (Qjh hb3a HBS.out) (fun k hk=>by cases hk);have hb3':Below (((w1.setCell ⟨w.heap.size,0,none⟩ (.bool true)).setCell ⟨w.heap.size,1,none⟩ (.slice A n c)).setCell ⟨w.heap.size,2,none⟩ (.slice A' m c')).heap.size (((w1.setCell ⟨w.heap.size,0,none⟩ (.bool true)).setCell ⟨w.heap.size,1,none⟩ (.slice A n c)).setCell ⟨w.heap.size,2,none⟩ (.slice A' m c')) W3:=hb3.mono (Nat.le_of_eq HBS.out);have HT3:Hid (∀W,Below w1.heap.size W3 W->TxF W):=fun W h=>hT2.below (hb3'.trans (h.mono (Nat.le_of_eq HBS.out)))
  have hsz3:w1.heap.size<=W3.heap.size:=le_trans (Nat.le_of_eq HBS.out.symm) hb3.size;have hrx3:=hrx2.below hb3 hrx1.lt;have hN3:=hN2.below hb3';have HD3:Hid (∀W,Below w1.heap.size W3 W->Num W (dl q.den) A' m c'):=fun W h=>hD2.below (hb3'.trans (h.mono (Nat.le_of_eq HBS.out)))
  have hb03:=hb02.trans (hb3.mono (by have:=hrx1.lt;omega));rw [<-hl01]at hown3;obtain⟨k0,k1,k2⟩:=hrx3.cells;clear hb3 hb3' hb3a hlit hg3 HBS;go_wp2_with fail
 all_goals
  have hlt:=hrx1.lt;clear hl01 hrx hrx1 hrx2 hN hN2 hD2 hb02 hT2 hb01 hb1 hbA;refine(Qd1 w1.heap.size q.num.natAbs n c A _ l0 _ HT3 hown3 hsz3 (by have:=HL0.out;rw [<-this];split<;>simp) hN3 (by omega) HS9.out.1).mono ?_;rintro e w4 ⟨v4,rfl,ho4,hb4,hk4⟩;have hrx4:=hrx3.below hb4 hlt;have hD4:=HD3.out _ hb4;have HD4:Hid (∀W,Below w1.heap.size w4 W->Num W (dl q.den) A' m c'):=fun W h=>HD3.out _ (hb4.trans h)
  have HT4:Hid (∀W,Below w1.heap.size w4 W->TxF W):=fun W h=>HT3.out _ (hb4.trans h)
  have hsz4:w1.heap.size<=w4.heap.size:=le_trans hsz3 hb4.size;have hb04:=hb03.trans (hb4.mono (le_of_lt hlt));obtain⟨k0,k1,k2⟩:=hrx4.cells;have hl1:(l0++Lib.decDigits q.num.natAbs)≠[]:=by
   intro e;have h1:=congrArg List.length e;rw [List.length_append]at h1;have h2:=Qds q.num.natAbs;have h0:([]:List UInt8).length=0:=rfl;omega
  have hl1l:(l0++Lib.decDigits q.num.natAbs).length<=999999:=by
   rw [List.length_append];have h1:l0.length<=1:=(by have:=HL0.out;rw [<-this];split<;>simp);have h2:=Ql5 (X:=q.num.natAbs) (k:=10000) hS.sz.1;omega
  obtain⟨l1,hl1e⟩:∃l1,l0++Lib.decDigits q.num.natAbs=l1:=⟨_,rfl⟩;rw [hl1e]at ho4 hl1 hl1l;have HL1:=hid hl1e;clear hl1e HT3 HD3 hrx3 hN3 hb03 hsz3 hk4 hb4 hown3;by_cases hd1:q.den=1
  ·have hm0:m=0:=by rw [hD4.len,hd1];rfl
   subst hm0;have HD1:=hid hd1;clear hd1 hD4;obtain⟨g,cap,rfl,hconv⟩:=Ql6 ho4 hl1;go_wp2_with fail
   have ef:l1=fmtQ q:=by
    unfold fmtQ;rw [if_pos HD1.out,List.append_nil,HL0.out,HL1.out]
   rw [<-ef];go_ret;exact⟨rfl,hb04⟩
  ·have hm0:0<m:=by
    rw [hD4.len,Qj1 hd1];exact List.length_pos_iff.2 (fun e=>q.den_nz (Qcl.1 e))
   have hdec:decide ((0:Int)<(m:Int))=true:=decide_eq_true (by omega);have HD1:=hid hd1;clear hd1;have hml4:m<=1000000:=(by omega);have ho4a:=ho4.alloc (.cells #[.int .u8 47] 5);have hlit4:=(Boxed.new w4 5 (.int .u8 47)).cell;have hb4a:Below w1.heap.size w4 (w4.alloc (.cells #[.int .u8 47] 5)):=(Below.refl _ _).alloc hsz4 _;go_wp2_with (at_builtin;refine Qff rfl (.tmp 19) (.tmp 20) rfl rfl w1.heap.size v4 l1 47 rfl ho4a w4.heap.size rfl hlit4 (by omega) (le_trans hsz4 hb4a.size) ?_)
   intro v5 w5 ho5 hg5;have hb5:=hb4a.grown hg5 (le_trans hsz4 hb4a.size) (fun k hk=>(ho4a.lt k hk).1);have hrx5:=hrx4.below hb5 hlt;obtain⟨k0,k1,k2⟩:=hrx5.cells;have hD5:=HD4.out _ hb5;have hb05:=hb04.trans (hb5.mono (le_of_lt hlt));have HT5:Hid (∀W,Below w1.heap.size w5 W->TxF W):=fun W h=>HT4.out _ (hb5.trans h)
   obtain⟨l2,hl2⟩:∃l2,l1++[47]=l2:=⟨_,rfl⟩;have hl2l:l2.length<=1000000:=(by rw [<-hl2,List.length_append];have:([47]:List UInt8).length=1:=rfl;omega);rw [hl2]at ho5;have HL2:=hid hl2;clear hl2 hlit4 hb4a hg5 ho4a hD4;go_wp2_with fail
   rw [Qj1 HD1.out]at hD5;refine(Qd1 w1.heap.size q.den m c' A' _ l2 _ HT5 ho5 (le_trans hsz4 hb5.size) hl2l hD5 hml4 HS9.out.2).mono ?_;rintro e w6 ⟨v6,rfl,ho6,hb6,hk6⟩;obtain⟨l3,hl3⟩:∃l3,l2++Lib.decDigits q.den=l3:=⟨_,rfl⟩;rw [hl3]at ho6;have hl3n:l3≠[]:=by
    intro e;have h1:=congrArg List.length e;rw [<-hl3,List.length_append]at h1;have h2:=Qds q.den;have h0:([]:List UInt8).length=0:=rfl;omega
   have HL3:=hid hl3;clear hl3;obtain⟨g,cap,rfl,hconv⟩:=Ql6 ho6 hl3n;go_wp2_with fail
   have ef:l3=fmtQ q:=by
    unfold fmtQ;rw [if_neg HD1.out,<-HL3.out,<-HL2.out,<-HL1.out,HL0.out];simp
   rw [<-ef];go_ret;exact⟨rfl,hb05.trans (hb6.mono (le_of_lt hlt))⟩
theorem Ql7(v:Value)(q:Rat)(L:Nat)(w:World)(hT:Txt w)(h:Inp w v q L)(hS:Sm q):Calls prog 136 #[v] w (RetV w (.string ⟨(fmtQ q).toArray⟩)):=Qkh v q L w hT.f h hS
end Go.Proofs.YthbhgelncdnmgaaGreatDoor
