import Derived.Test.YthbhgelncdnmgaaGreatDoorZ41
import Derived.Lib.Walk
import Derived.Deep.QuietTactic
import Derived.BigQuiet
import Derived.Maps.AppendAt
set_option linter.unusedVariables false
set_option linter.unusedSimpArgs false
set_option maxHeartbeats 1000000
namespace Go.Proofs.YthbhgelncdnmgaaGreatDoor
open Go.Proofs.Tryz
open Go.RowKit
theorem Rd.drewN{w:World}{xs:List Value}{A:Option Addr}{n c:Nat}(h:Rd w xs A n c)(k:Nat):Rd (w.drewN k) xs A n c:=⟨h.len,h.cap,h.cells⟩
theorem Rd.one(w:World)(x:Value)(t:TypeId):Rd (w.alloc (.cells #[x] t)) [x] (some ⟨w.heap.size,0,none⟩) 1 1:=
 ⟨rfl,Nat.le_refl _,fun _=>⟨w.heap.size,0,rfl,by simp,fun k y hy=>by
  have h:=cell_of_row (w.alloc (.cells #[x] t)) w.heap.size (0+k) #[x] t (0,0) (heap_alloc_new w _);rw [h,Nat.zero_add]
  simpa using hy⟩⟩
def RetMod(w0:World)(n:Nat)(e:Ending)(w':World):Prop:=∃r:Nat,r<n/\e=.returned (.int .i64 (r:Int))/\w0=w'
theorem retMod{w:World}{n:Nat}{x:Int}(h0:0<=x)(h1:x<n):RetMod w n (.returned (.int .i64 x)) w:=⟨x.toNat,by omega,y_int (by omega),rfl⟩
theorem Qe3(k:Int)(n:Nat)(w:World)(hk1: -9223372036854775808<=k)(hk2:k<=9223372036854775807)(h0:0<n)(hn:n<=1073741824):
 Calls prog 60 #[.int .i64 k,.int .i64 (n:Int)] w (RetMod w n):=by
 have hz:((n:Int)==0)=false:=by simp;omega
 have hn1:(1:Int)<=(n:Int):=by omega
 rcases Int.lt_or_le k 0 with h|h
 ·obtain⟨y,hy⟩:∃y,k.tmod n=y:=⟨_,rfl⟩
  have b1: -(n:Int)<y/\y<=0:=by
   rw [<-hy];have h1:=Int.lt_tmod_of_pos k (b:=(n:Int)) (by omega);have h2:(-k).tmod n= -(k.tmod n):=Int.neg_tmod ..;have h3:=Int.tmod_nonneg (a:= -k) (n:Int) (by omega);omega
  obtain⟨b2,b3⟩:=b1;by_cases hy0:y<0
  ·go_enter func60,ntmps60
   go_wp2_with fail
   go_ret;exact retMod (by omega) (by omega)
  ·go_enter func60,ntmps60
   go_wp2_with fail
   go_ret;exact retMod (by omega) (by omega)
 ·have b1:0<=k%n:=Int.emod_nonneg _ (by omega)
  have b2:k%n<n:=Int.emod_lt_of_pos _ (by omega);go_enter func60,ntmps60;go_wp2_with fail
  go_ret;exact retMod (by omega) (by omega)
end Go.Proofs.YthbhgelncdnmgaaGreatDoor
namespace Go.Proofs.YthbhgelncdnmgaaGreatDoor
open Go.Proofs.Tryz
def cnt(s:Nat):Nat->Nat
 |0=>1
 |k+1=>cnt s k*s+1
end Go.Proofs.YthbhgelncdnmgaaGreatDoor
