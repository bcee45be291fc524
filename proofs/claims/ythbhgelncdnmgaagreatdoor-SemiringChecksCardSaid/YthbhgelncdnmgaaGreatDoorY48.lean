import Derived.Test.YthbhgelncdnmgaaGreatDoorY20
import Derived.Shelf.RegionOpenPlain
set_option linter.unusedVariables false
set_option linter.unusedSimpArgs false
set_option maxRecDepth 20000
set_option maxHeartbeats 4000000
namespace Go.Proofs.YthbhgelncdnmgaaGreatDoor
open Go.Proofs.Tryz
open Lib (hid)
open Nat (le_trans)
open Go.RowKit
theorem Qw0(A A':Option Addr)(n c n' c':Nat)(l l':List FldM)(w:World)(V:Bool)(h:PRaw w A n c l)(h':PRaw w A' n' c' l')(hs:small l.length)(hm:∀m∈l,small m.2.2.1.length/\small m.2.2.2.length)(hm':∀m∈l',small m.2.2.1.length/\small m.2.2.2.length)(H:Hid (decide (l=l')=V)):Calls prog 47 #[.slice A n c,.slice A' n' c'] w (RetV w (.bool V)):=by
 have hmx:prog.follows .mixedOrders=true:=by kernel_rfl
 obtain rfl:=h.len;obtain rfl:=h'.len;by_cases hlen:l.length=l'.length
 ·rw [<-hlen]
  have HLEN:=hid hlen;have HMM:=hid hm;have HMM':=hid hm';clear hlen hm hm';go_enter func47,ntmps47;go_wp2_with fail
  go_loopw [5] (fun i wr=> ∃k:Nat,k<=l.length/\i=.int .i64 (k:Int)/\Below w.heap.size w wr/\Hid (∀j,j<k->l[j]? =l'[j]?)) (fun i _=>(l.length-intOf i).toNat)
  case atStart=>exact⟨0,Nat.zero_le _,rfl,Below.refl _ _,fun j hj=>absurd hj (Nat.not_lt_zero _)⟩
  case round=>
   obtain⟨k,hk,rfl,hb,hO⟩:=hrel;by_cases hkn:k<l.length
   ·obtain⟨m,hm⟩:∃m,l[k]? =some m:=⟨l[k],List.getElem?_eq_getElem hkn⟩
    obtain⟨m',hm'⟩:∃m',l'[k]? =some m':=⟨l'[k],List.getElem?_eq_getElem (by have:=HLEN.out;omega)⟩;obtain⟨b,o,Ay,cy,By,ey,rfl,hbq,hat,hN,hD⟩:=h.at6n hm;obtain⟨b',o',Ay',cy',By',ey',rfl,hbq',hat',hN',hD'⟩:=h'.at6n hm';have hlt:(k:Int)<(l.length:Int):=(by omega);have hw1:IntKind.i64.wrap ((k:Int)+1)=(k:Int)+1:=IntWalk.i64_in _ (by have:l.length<=1000000:=hs;omega);have hatw:=hat.below hb hbq;have hatw':=hat'.below hb hbq';have hsm:=HMM.out m (List.mem_of_getElem? hm);have hsm':=HMM'.out m' (List.mem_of_getElem? hm');have HSAME:∀V1,Hid (decide (m.2.1=m'.2.1/\m.2.2.1=m'.2.2.1/\m.2.2.2=m'.2.2.2)=V1)->Calls prog 46 #[.agg #[.bool m.2.1,.slice Ay m.2.2.1.length cy,.slice By m.2.2.2.length ey],.agg #[.bool m'.2.1,.slice Ay' m'.2.2.1.length cy',.slice By' m'.2.2.2.length ey']] wr.drew (RetV wr.drew (.bool V1)):=fun V1 HV1=>
     Qb7 _ _ _ _ _ _ _ _ _ _ _ _ _ _ _ _ _ _ wr.drew V1 (hN.below (hb.trans (Below.refl _ _).drew)) (hD.below (hb.trans (Below.refl _ _).drew)) (hN'.below (hb.trans (Below.refl _ _).drew)) (hD'.below (hb.trans (Below.refl _ _).drew)) (le_trans hsm.1 (by decide)) (le_trans hsm.2 (by decide)) (le_trans hsm'.1 (by decide)) (le_trans hsm'.2 (by decide)) HV1
    have HSA:=hid HSAME;have HM:=hid hm;have HM':=hid hm';have HK:=hid hkn;clear HSAME hN hD hN' hD' hsm hsm';have g1:b<wr.drew.heap.size:=Nat.lt_of_lt_of_le hbq hb.size;have g2:b'<wr.drew.heap.size:=Nat.lt_of_lt_of_le hbq' hb.size;generalize hn1:m.2.2.1.length=n1 at*
    generalize hn2:m.2.2.2.length=n2 at*
    generalize hn3:m'.2.2.1.length=n3 at*
    generalize hn4:m'.2.2.2.length=n4 at*
    clear hn1 hn2 hn3 hn4;by_cases he:m.1=m'.1
    ·have heq:∀w:World,(Op.equalIn 10000 69 (.agg #[.int .i64 m.1.1,.int .i64 m.1.2.1,.int .i64 m.1.2.2]) (.agg #[.int .i64 m'.1.1,.int .i64 m'.1.2.1,.int .i64 m'.1.2.2])).run prog w=.ok true w:=fun w=>by
      rw [Qj8,he];simp
     have HE:=hid he;obtain⟨x0,x1,x2,x3,x4,x5⟩:=(show At6 wr.drew _ _ _ _ _ _ _ _ from hatw);obtain⟨z0,z1,z2,z3,z4,z5⟩:=(show At6 wr.drew _ _ _ _ _ _ _ _ from hatw');clear he hm hm' hkn;go_wp2_with fail
     have hat5:=(show At6 wr.drew _ _ _ _ _ _ _ _ from hatw);have hat5':=(show At6 wr.drew _ _ _ _ _ _ _ _ from hatw');by_cases hv:m.2.1=m'.2.1/\m.2.2.1=m'.2.2.1/\m.2.2.2=m'.2.2.2
     ·have HS:=hid (HSA.out true (hid (decide_eq_true hv)))
      have HV:=hid hv;clear hv HSA
      go_region_held3 (fun w'=>(w'.cell? ⟨b,o+k*6,none⟩=some (.int .i64 m.1.1)/\w'.cell? ⟨b,o+k*6+1,none⟩=some (.int .i64 m.1.2.1)/\w'.cell? ⟨b,o+k*6+2,none⟩=some (.int .i64 m.1.2.2)/\w'.cell? ⟨b,o+k*6+3,none⟩=some (.bool m.2.1)/\w'.cell? ⟨b,o+k*6+4,none⟩=some (.slice Ay n1 cy)/\w'.cell? ⟨b,o+k*6+5,none⟩=some (.slice By n2 ey))/\(w'.cell? ⟨b',o'+k*6,none⟩=some (.int .i64 m'.1.1)/\w'.cell? ⟨b',o'+k*6+1,none⟩=some (.int .i64 m'.1.2.1)/\w'.cell? ⟨b',o'+k*6+2,none⟩=some (.int .i64 m'.1.2.2)/\w'.cell? ⟨b',o'+k*6+3,none⟩=some (.bool m'.2.1)/\w'.cell? ⟨b',o'+k*6+4,none⟩=some (.slice Ay' n3 cy')/\w'.cell? ⟨b',o'+k*6+5,none⟩=some (.slice By' n4 ey')))
       (first|with_reducible exact⟨⟨x0,x1,x2,x3,x4,x5⟩,⟨z0,z1,z2,z3,z4,z5⟩⟩|with_reducible exact⟨ya,yb⟩|fail)
       (first
        |(go_at_call 46;refine HS.out.mono ?_;rintro e5 x5' ⟨rfl,hb5⟩;have ya:_/\_/\_/\_/\_/\_:=hat5.below hb5 g1;have yb:_/\_/\_/\_/\_/\_:=hat5'.below hb5 g2)
        |fail)
      go_wp2_with fail
      go_roundw
      case rel=>
       refine⟨k+1,HK.out,congrArg (Value.int _) (by omega),hb.drew.trans (hb5.mono hb.size),fun j hj=>?_⟩;rcases Nat.lt_or_ge j k with hjk|hjk
       ·exact hO.out j hjk
       ·obtain rfl:j=k:=by omega
        rw [HM.out,HM'.out,Prod.ext HE.out (Prod.ext HV.out.1 (Prod.ext HV.out.2.1 HV.out.2.2))]
      case measure=>simp [intOf];have:=HK.out;omega
     ·have HS:=hid (HSA.out false (hid (decide_eq_false hv)))
      have HV:Hid (V=false):=by
       show V=false;rw [<-H.out];exact decide_eq_false (fun e=>by have h1:=HM.out;rw [e,HM'.out]at h1;cases h1;exact hv ⟨rfl,rfl,rfl⟩)
      clear hv HSA
      go_region_held3 (fun w'=>(w'.cell? ⟨b,o+k*6,none⟩=some (.int .i64 m.1.1)/\w'.cell? ⟨b,o+k*6+1,none⟩=some (.int .i64 m.1.2.1)/\w'.cell? ⟨b,o+k*6+2,none⟩=some (.int .i64 m.1.2.2)/\w'.cell? ⟨b,o+k*6+3,none⟩=some (.bool m.2.1)/\w'.cell? ⟨b,o+k*6+4,none⟩=some (.slice Ay n1 cy)/\w'.cell? ⟨b,o+k*6+5,none⟩=some (.slice By n2 ey))/\(w'.cell? ⟨b',o'+k*6,none⟩=some (.int .i64 m'.1.1)/\w'.cell? ⟨b',o'+k*6+1,none⟩=some (.int .i64 m'.1.2.1)/\w'.cell? ⟨b',o'+k*6+2,none⟩=some (.int .i64 m'.1.2.2)/\w'.cell? ⟨b',o'+k*6+3,none⟩=some (.bool m'.2.1)/\w'.cell? ⟨b',o'+k*6+4,none⟩=some (.slice Ay' n3 cy')/\w'.cell? ⟨b',o'+k*6+5,none⟩=some (.slice By' n4 ey')))
       (first|with_reducible exact⟨⟨x0,x1,x2,x3,x4,x5⟩,⟨z0,z1,z2,z3,z4,z5⟩⟩|with_reducible exact⟨ya,yb⟩|fail)
       (first
        |(go_at_call 46;refine HS.out.mono ?_;rintro e5 x5' ⟨rfl,hb5⟩;have ya:_/\_/\_/\_/\_/\_:=hat5.below hb5 g1;have yb:_/\_/\_/\_/\_/\_:=hat5'.below hb5 g2)
        |fail)
      go_wp2_with fail
      go_ret;exact⟨by rw [HV.out];rfl,hb.drew.trans (hb5.mono hb.size)⟩
    ·have heq:∀w:World,(Op.equalIn 10000 69 (.agg #[.int .i64 m.1.1,.int .i64 m.1.2.1,.int .i64 m.1.2.2]) (.agg #[.int .i64 m'.1.1,.int .i64 m'.1.2.1,.int .i64 m'.1.2.2])).run prog w=.ok false w:=fun w=>by
      rw [Qj8]
      congr 1
      rw [Bool.eq_false_iff];intro hh;simp only [Bool.and_eq_true,beq_iff_eq]at hh;exact he (Prod.ext hh.1 (Prod.ext hh.2.1 hh.2.2))
     have HV:Hid (V=false):=by
      show V=false;rw [<-H.out];exact decide_eq_false (fun e=>by rw [e]at hm;rw [hm]at hm';cases hm';exact he rfl)
     obtain⟨x0,x1,x2,x3,x4,x5⟩:=(show At6 wr.drew _ _ _ _ _ _ _ _ from hatw);obtain⟨z0,z1,z2,z3,z4,z5⟩:=(show At6 wr.drew _ _ _ _ _ _ _ _ from hatw');clear he hm hm' hkn;go_wp2_with fail
     go_big_region_o
     all_goals go_wp2_with fail
     all_goals go_ret
     all_goals exact⟨by rw [HV.out];rfl,hb.drew⟩
   ·obtain rfl:k=l.length:=by omega
    have hlt:¬((l.length:Int)<(l.length:Int)):=(by omega);have HV:Hid (V=true):=by
     show V=true;rw [<-H.out];exact decide_eq_true (List.ext_getElem? (fun j=>by
      by_cases hj:j<l.length
      ·exact hO.out j hj
      ·rw [List.getElem?_eq_none (by omega),List.getElem?_eq_none (by have:=HLEN.out;omega)]))
    go_wp2_with fail
    go_ret;exact⟨by rw [HV.out];rfl,hb⟩
 ·have hne:(((l.length:Int)==(l'.length:Int)):Bool)=false:=by simp;omega
  have HV:Hid (V=false):=by
   show V=false;rw [<-H.out];exact decide_eq_false (fun e=>hlen (by rw [e]))
  clear hlen;go_enter func47,ntmps47;go_wp2_with fail
  go_ret;exact⟨by rw [HV.out];rfl,Below.refl _ _⟩
end Go.Proofs.YthbhgelncdnmgaaGreatDoor
