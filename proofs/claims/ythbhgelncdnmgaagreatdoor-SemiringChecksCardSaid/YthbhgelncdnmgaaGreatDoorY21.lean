import Derived.Test.YthbhgelncdnmgaaGreatDoorY18
import Derived.ProofKit
import Derived.OpenShut
import Derived.ShutString
import Derived.ChangeOld
import Derived.SliceStrings
import Derived.Test.YthbhgelncdnmgaaGreatDoorY20
import Derived.Lib.LaidTab
import Derived.LaidSub
import Derived.LaidLaws
import Derived.MakeChecks
import Derived.Shelf.Vars
import Derived.HandedShaped
import Derived.Handed
import Derived.Lib.SmallJoins
import Derived.ChangeSlices
import Derived.Carry
import Derived.LaidMore
import Derived.ChangeSame
import Derived.Stop.Joined
import Derived.Lay
set_option linter.unusedVariables false
set_option linter.unusedSimpArgs false
set_option maxRecDepth 100000
namespace Go.Proofs.YthbhgelncdnmgaaGreatDoor
open Go.Proofs.Tryz
open Go Go.ChangeShapes Go.WideShapes Go.RowKit
section
variable {H:Type} {enc:TypeId × Value->H}
theorem Qs8{W:World}{n:Nat}{v:Value}{y:DataW H × List MemPlace}(h:DataW.trod enc prog W 0 (fun _=>true) true n 25 [v]=some y):∃A m c l,v=.slice A m c/\Num W l A m c:=by
 rcases open_ints underlying25 underlying97 (by kernel_rfl) h with⟨hcs,_⟩|⟨a,len,cap,zs,hcs,_,hl,hm,hz,_,hcell,hwz⟩
 ·exact⟨none,0,0,[],by simpa using hcs,Num.nil _ _ _⟩
 ·simp only [if_true]at hz
  have hb:∀z∈zs,0<=z/\z<4294967296:=fun z hzz=>by
   have:=hwz z hzz;simp only [Lit.wf,Bool.and_eq_true,decide_eq_true_eq]at this;have e1:IntKind.u32.min=0:=rfl;have e2:IntKind.u32.max=4294967295:=rfl;omega
  refine⟨some a,len,cap,(zs.take len).map Int.toNat,by simpa using hcs,by simp;omega,hl,fun x hx=>?_,fun hn=>?_⟩
  ·obtain⟨z,hz1,rfl⟩:=List.mem_map.1 hx
   have:=hb z (List.mem_of_mem_take hz1);omega
  ·obtain⟨b,off,spot⟩:=a
   have hspot:spot=none:=(by simpa [Addr.add] using World.cell?_spot (hcell 0 (by omega)));subst hspot;have hc0:∀j,j<zs.length->W.cell? ⟨b,off+j,none⟩=some (.int .u32 (zs.getD j 0)):=fun j hj=>by rw [<-add_plain];exact hcell j hj
   refine⟨b,off,rfl,World.block_lt_of_cell? _ _ (hc0 0 (by omega)),fun k x hk=>?_⟩;obtain⟨z,hz1,rfl⟩:=Option.map_eq_some_iff.1 (by rwa [List.getElem?_map]at hk);have hkl:k<len:=by
    rcases Nat.lt_or_ge k len with h|h
    ·exact h
    ·rw [List.getElem?_eq_none (by simp;omega)]at hz1;cases hz1
   rw [List.getElem?_take_of_lt hkl]at hz1;rw [hc0 k (by omega),List.getD_eq_getElem?_getD,hz1];have:=hb z (List.mem_of_getElem? hz1);simp;omega
theorem Qcp{W W':World}{t:TypeId}{v:Value}{d:DataW H}{p:List MemPlace}(hr:prog.readableRec t=true)(ht:t<prog.types.size)(h:DataW.Trod enc prog W 0 (fun _=>true) true t v d p)(hb:Below W.heap.size W W')(hlt:∀x∈p,x.block<W.heap.size):
 DataW.Trod enc prog W' 0 (fun b=>decide (b<W.heap.size)) true t v d p:=Below.trod (by kernel_rfl) hr ht h hb hlt
end
end Go.Proofs.YthbhgelncdnmgaaGreatDoor
