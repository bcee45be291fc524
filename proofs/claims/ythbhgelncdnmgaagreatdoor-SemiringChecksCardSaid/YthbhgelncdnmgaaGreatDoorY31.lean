import Derived.RangeFuncNested
import Derived.RangeFuncBound
import Derived.RangeFuncCalls
import Derived.RangeFuncLeaves
import Derived.Shelf.Abstract
import Derived.Shelf.RegionOpen
import Derived.OwnWalkIn
import Derived.TacticsInMore
import Derived.LoopNIn
import Derived.LoopIn
import Derived.Test.YthbhgelncdnmgaaGreatDoorY01
set_option linter.unusedVariables false
set_option linter.unusedSimpArgs false
set_option maxRecDepth 100000
set_option maxHeartbeats 2000000
namespace Go.Proofs.YthbhgelncdnmgaaGreatDoor
open Go.Proofs.Tryz
open Go.RowKit Go.Shelf
attribute [local go_sem] Oper.semAt_some
def bk(cs:List Nat)(n k:Nat):List (Nat × Nat):=(List.range k).map fun j=>(n-1-j,cs.getD (n-1-j) 0)
theorem Qyr(cs:List Nat)(n k:Nat):bk cs n (k+1)=bk cs n k++[(n-1-k,cs.getD (n-1-k) 0)]:=by simp [bk,List.range_succ]
theorem Qtn(cs:List Nat)(n k:Nat):(bk cs n k).length=k:=by simp [bk]
abbrev encB(x:Nat × Nat):Array Value:=#[.int .i64 (x.1:Int),.int .u32 (x.2:Int)]
def KpB(b Bs:Nat)(W W':World):Prop:=W'.heap[b]? =W.heap[b]? /\W'.heap[Bs]? =W.heap[Bs]?
theorem KpB.refl(b Bs:Nat)(W:World):KpB b Bs W W:=⟨rfl,rfl⟩
theorem KpB.trans{b Bs:Nat}{A B C:World}(h:KpB b Bs A B)(k:KpB b Bs B C):KpB b Bs A C:=⟨k.1.trans h.1,k.2.trans h.2⟩
theorem Qv6(F:Fence)(m:Nat)(hF:F.fn 268)(hro:F.round=none)(hm:1<=m)(l Bs b n cap:Nat)(cs:List Nat)(hn:n<=4000000)(J Jx:List (Nat × Nat)->World->Prop)
 (hY:∀pre x W,J pre W->pre.length<n->YieldAt F (m-1) prog l (encB x) W fun e W'=>
  (e=.returned (.bool true)/\J (pre++[x]) W'/\KpB b Bs W W')\/(e=.returned (.bool false)/\Jx (pre++[x]) W'))
 (W:World)(hBs:W.cell? ⟨Bs,0,none⟩=some (.slice (some ⟨b,0,none⟩) n cap))(hc:∀j,j<n->W.cell? ⟨b,j,none⟩=some (.int .u32 ((cs.getD j 0:Nat):Int)))(h0:J [] W):
 CallsIn F m prog 268 #[.func (.yield l) #[] #[],.pointer (some ⟨Bs,0,none⟩)] W fun e W'=>(∃v,e=.returned v)/\
  ((∃ys,ys=bk cs n n/\J ys W')\/(∃pre,(∃k,k<=n/\pre=bk cs n k)/\Jx pre W')):=by
 refine callsIn_of_wp func268 rfl hF ?_ hro;simp only [ntmps268,List.size_toArray,List.length_cons,List.length_nil,Nat.reduceAdd,Nat.reduceSub,Array.replicate_succ,Array.replicate_zero,List.push_toArray,List.append_toArray,List.nil_append,List.cons_append];have hw1:IntKind.i64.wrap ((n:Int) - 1)=(n:Int) - 1:=IntWalk.i64_in _ (by omega)
 gi_wp2
 gi_loopw [3] (fun i wr=> ∃k:Nat,k<=n/\i=.int .i64 ((n:Int) - 1-(k:Int))/\J (bk cs n k) wr/\KpB b Bs W wr) (fun i _=>(intOf i+1).toNat)
 case atStart=>exact⟨0,Nat.zero_le _,by simp,h0,KpB.refl _ _ _⟩
 case round=>
  obtain⟨k,hk,rfl,hJs,hnx⟩:=hrel;by_cases hlt:k<n
  ·have hcx:wr.cell? ⟨b,n-1-k,none⟩=some (.int .u32 ((cs.getD (n-1-k) 0:Nat):Int)):=(World.cell?_of_block hnx.1).trans (hc _ (by omega))
   have hBs':wr.cell? ⟨Bs,0,none⟩=some (.slice (some ⟨b,0,none⟩) n cap):=(World.cell?_of_block hnx.2).trans hBs;obtain⟨j,hj⟩:∃j,n-1-k=j:=⟨_,rfl⟩;have hji:(n:Int) - 1-(k:Int)=(j:Int):=(by omega);obtain⟨c,hcd⟩:∃c,cs.getD (n-1-k) 0=c:=⟨_,rfl⟩;have hbk:bk cs n (k+1)=bk cs n k++[(j,c)]:=(by rw [Qyr,hcd,hj]);obtain⟨fn,tmps,assign,body,hy,hR⟩:=hY _ (j,c) wr hJs (by rw [Qtn];exact hlt);rw [hcd,hj]at hcx;have hjn:j<n:=(by omega);have hj0:(0:Int)<=(j:Int):=(by omega);rw [hji];have HJ:=Lib.hid hj;have HBK:=Lib.hid hbk;clear hj hcd hbk hji hc hBs
   gi_wp2
   refine hR.mono ?_;rintro e W3 (⟨rfl,hJ3,hk3⟩|⟨rfl,hJx3⟩)
   ·have hw2:IntKind.i64.wrap ((j:Int) - 1)=(j:Int) - 1:=IntWalk.i64_in _ (by omega)
    gi_wp2
    go_roundw
    case rel=>exact⟨k+1,by omega,congrArg (Value.int _) (by have:=HJ.out;omega),by rw [HBK.out];exact hJ3,hnx.trans hk3⟩
    case measure=>simp [intOf]
   ·gi_wp2
    refine bodyPost_ret (results_none rfl _ _ _) rfl ?_;exact⟨⟨_,rfl⟩,.inr ⟨_,⟨k+1,by omega,HBK.out.symm⟩,hJx3⟩⟩
  ·obtain rfl:k=n:=by omega
   have hneg:¬(0:Int)<=(k:Int) - 1-(k:Int):=by omega
   gi_wp2
   go_end0
   exact⟨⟨_,rfl⟩,.inl hJs⟩
theorem Qqj(F:Fence)(m:Nat)(hF:F.fn 268)(hro:F.round=none)(hm:1<=m)(Bs b n cap:Nat)(cs:List Nat)(hn:n<=4000000)(w:World)(hBs:Bs<w.heap.size)(hb:b<w.heap.size)
 (hc:w.cell? ⟨Bs,0,none⟩=some (.slice (some ⟨b,0,none⟩) n cap))(hcs:∀j,j<n->w.cell? ⟨b,j,none⟩=some (.int .u32 ((cs.getD j 0:Nat):Int))):
 SeqStopsK F m prog 268 #[.pointer (some ⟨Bs,0,none⟩)] encB (KpB b Bs) (fun ys=>ys=bk cs n n) (fun pre=> ∃k,k<=n/\pre=bk cs n k) n w:=
 fun l J Jx W hW _ _ hY h0=>
  Qv6 F m hF hro hm l Bs b n cap cs hn J Jx hY W ((hW.cell (p:=⟨Bs,0,none⟩) hBs).trans hc) (fun j hj=>(hW.cell (p:=⟨b,j,none⟩) hb).trans (hcs j hj)) h0
end Go.Proofs.YthbhgelncdnmgaaGreatDoor
