import Derived.Test.YthbhgelncdnmgaaGreatDoorY01
import Derived.Deep.RegionWith
import Derived.BigRegion
set_option linter.unusedVariables false
set_option linter.unusedSimpArgs false
set_option maxHeartbeats 1000000
set_option maxRecDepth 20000
namespace Go.Proofs.YthbhgelncdnmgaaGreatDoor
open Go.Proofs.Tryz
open Nat (le_refl)
open Go.RowKit
theorem Qk9(A A':Option Addr)(n c n' c':Nat)(l r:List Nat)(w:World)(hx:Num w l A n c)(hy:Num w r A' n' c')(hle:n'<=n)(hn:n<=536870912)(hv:Hid (val r<=val l)):
 Calls prog 294 #[.slice A n c,.slice A' n' c'] w (RetOwn w (limbs (val l-val r))):=by
 have hmk:=Qfn n (n:Int) (by omega) (by omega);go_enter func294,ntmps294
 go_wp2
 go_loopw [6,13] (fun si sj wr=> ∃(k br:Nat) (L:List Nat),k<=n/\br<=1/\si=.int .u32 br/\sj=.int .i64 k/\Row wr w.heap.size L/\Below w.heap.size w wr/\Hid (L.length=n/\Lim L/\val (L.take k)+val (r.take k)=val (l.take k)+P k*br))
  (fun _ sj _=>n-(intOf sj).toNat)
 case atStart=>exact⟨0,0,List.replicate n 0,Nat.zero_le _,by omega,rfl,rfl,Row.new _ _,(Below.refl _ _).alloc (le_refl _) _,show Hid _ from⟨by simp,Lim.zeros _,by simp [val]⟩⟩
 case round=>
  obtain⟨k,br,L,hk,hbr,rfl,rfl,hrow,hbel,HI⟩:=hrel;by_cases hkn:k<n
  ·have hxw:=hx.below hbel
   have hyw:=hy.below hbel;obtain⟨b,o,x,rfl,_,hx',hx4,hcx⟩:=hxw.at_ hkn;obtain⟨y,hy'⟩:∃y,r.getD k 0=y:=⟨_,rfl⟩;have hy4:y<4294967296:=(by rw [<-hy'];exact hy.lim.getD k);have HX:=Lib.hid hx';have HY:=Lib.hid hy';clear hx' hy';obtain⟨d,hd⟩:∃d,L.getD k 0=d:=⟨_,rfl⟩;have hcs:=hrow.cell (k:=k) (by have:=HI.out.1;omega);have hfs:=hrow.frozen k;rw [hd]at hcs;clear hd hmk;go_wp2_with fail
   go_region_with (first
    |(go_at_call 287;refine(Qfp _ _ _ (k:Int) r _ y hyw.drew (by omega) (by omega) HY).mono ?_;rintro e w' ⟨rfl,rfl⟩)
    |(go_at_call 327;refine(sub32 x y br _ hx4 hy4 hbr).mono ?_;rintro e w' ⟨rfl,rfl⟩))
   all_goals
    go_wp2_with fail
    go_roundw
    case rel=>
     refine⟨k+1,bor x y br,L.set k (dif x y br),by omega,Qi0 _ _ _,rfl,congrArg (Value.int _) (by omega),(hrow.set k _),(hbel.setCell (le_refl _) _).drew,?_⟩;show Hid _;have h:=Qu2 (k:=k) (by omega) HI.out (Qhm x y br) (Qge x y br hx4 hy4 hbr);refine⟨h.1,h.2.1,?_⟩;rw [Qac l k,Qac r k,HX.out,HY.out];exact h.2.2
    case measure=>simp [intOf];omega
  ·obtain rfl:k=n:=by omega
   have hlim2:Lim L:=HI.out.2.1;have HL:Hid (L.length=k):=HI.out.1;have HV:Hid (val L=val l-val r):=by
    show val L=val l-val r;have h:=HI.out.2.2;have h0:=hv.out;rw [List.take_of_length_le (l:=L) (by have:=HL.out;omega),List.take_of_length_le (l:=l) (by have:=hx.len;omega),List.take_of_length_le (l:=r) (by have:=hy.len;omega)]at h;have hlt:val L<P k:=(by have:=Qbg hlim2;rwa [HL.out]at this);have hb0:br=0:=by
     rcases Nat.eq_zero_or_pos br with hb|hb
     ·exact hb
     ·have:=Nat.le_mul_of_pos_right (P k) hb;omega
    subst hb0;omega
   clear hmk;go_wp2_with (go_at_call 223;refine(Qat _ _ _ L _ (hrow.num hlim2 HL.out.symm (le_refl _)) (by omega)).mono ?_;rintro e w' ⟨rfl,rfl⟩)
   go_ret;exact hrow.ret (le_refl _) hlim2 hbel (by have:=HL.out;omega) HV.out
theorem Qe0(A A':Option Addr)(n c n' c' a b:Nat)(w:World)(hx:Num w (limbs a) A n c)(hy:Num w (limbs b) A' n' c')(hn:n<=536870912)(hab:b<=a):
 Calls prog 294 #[.slice A n c,.slice A' n' c'] w (RetOwn w (limbs (a-b))):=by
 have h:=Qk9 A A' n c n' c' _ _ w hx hy (by have:=Qad hab;have:=hx.len;have:=hy.len;omega) hn (show Hid _ by rw [Qab,Qab];exact hab)
 rwa [Qab,Qab]at h
end Go.Proofs.YthbhgelncdnmgaaGreatDoor
