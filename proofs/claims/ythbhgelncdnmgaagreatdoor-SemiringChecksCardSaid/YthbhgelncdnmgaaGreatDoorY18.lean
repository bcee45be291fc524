import Derived.Test.YthbhgelncdnmgaaGreatDoorY17
import Derived.Lib.Walk
import Derived.Test.YthbhgelncdnmgaaGreatDoorY01
set_option linter.unusedVariables false
set_option linter.unusedSimpArgs false
namespace Go.Proofs.YthbhgelncdnmgaaGreatDoor
open Go.RowKit
theorem Rd.drewN{w:World}{xs:List Value}{A:Option Addr}{n c:Nat}(h:Rd w xs A n c)(k:Nat):Rd (w.drewN k) xs A n c:=⟨h.len,h.cap,h.cells⟩
theorem Rd.one(w:World)(x:Value)(t:TypeId):Rd (w.alloc (.cells #[x] t)) [x] (some ⟨w.heap.size,0,none⟩) 1 1:=
 ⟨rfl,Nat.le_refl _,fun _=>⟨w.heap.size,0,rfl,by simp,fun k y hy=>by
  have h:=cell_of_row (w.alloc (.cells #[x] t)) w.heap.size (0+k) #[x] t (0,0) (heap_alloc_new w _);rw [h,Nat.zero_add]
  simpa using hy⟩⟩
def ints(l:List Int):List Value:=l.map fun(n:Int)=>Value.int .i64 n
theorem Qnm(l:List Int):(ints l).length=l.length:=by simp [ints]
theorem Qvj(l:List Int)(k:Nat):(ints l)[k]? =(l[k]?).map fun(n:Int)=>Value.int .i64 n:=by simp [ints]
def Ints(w:World)(l:List Int)(A:Option Addr)(n c:Nat):Prop:=Rd w (ints l) A n c
theorem Ints.len{w:World}{l:List Int}{A:Option Addr}{n c:Nat}(h:Ints w l A n c):n=l.length:=by rw [Rd.len h,Qnm]
theorem Ints.below{w w':World}{l:List Int}{A:Option Addr}{n c:Nat}(h:Ints w l A n c)(hb:Below w.heap.size w w'):Ints w' l A n c:=Rd.below h hb
theorem Ints.drewN{w:World}{l:List Int}{A:Option Addr}{n c:Nat}(h:Ints w l A n c)(k:Nat):Ints (w.drewN k) l A n c:=h.below (Qa6 w k _)
theorem Ints.nil(w:World)(A:Option Addr)(c:Nat):Ints w [] A 0 c:=Rd.nil w A c
theorem Ints.at_{w:World}{l:List Int}{A:Option Addr}{n c:Nat}(h:Ints w l A n c){k:Nat}(hk:k<n):
 ∃b o,A=some ⟨b,o,none⟩/\b<w.heap.size/\w.cell? ⟨b,o+k,none⟩=some (.int .i64 (l.getD k 0)):=by
 obtain⟨b,o,x,hA,hb,hx,hc⟩:=Rd.at_ h hk;refine⟨b,o,hA,hb,?_⟩;rw [hc,List.getD_eq_getElem?_getD];rw [Qvj]at hx;obtain⟨s,hs,rfl⟩:=Option.map_eq_some_iff.1 hx;rw [hs];rfl
end Go.Proofs.YthbhgelncdnmgaaGreatDoor
