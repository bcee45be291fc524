import Derived.Below
import Derived.Lib.SlicesS
import Derived.Lib.Bytealg
import Derived.Test.YthbhgelncdnmgaaGreatDoorProg
import Derived.WalkKit
import Derived.WalkSpells
import Derived.WalkLawsBesides
import Derived.Lib.Hide
import Derived.Laws.OwnMore
import Derived.Deep.AppendLies
import Derived.Deep.Draws
import Derived.OwnWalk
set_option linter.unusedVariables false
set_option linter.unusedSimpArgs false
namespace Go.Proofs.YthbhgelncdnmgaaGreatDoor
def cnt(s:Nat):Nat->Nat
 |0=>1
 |k+1=>cnt s k*s+1
def okn(n:Nat):Bool:=decide (33<=n) && decide (n<=126) && decide (n≠35) && decide (n≠40) && decide (n≠41) && decide (n≠42) && decide (n≠43) && decide (n≠124) && decide (n≠45) && decide (n≠91) && decide (n≠93)
def okB(c:UInt8):Bool:=okn c.toNat
def nmd(s:ByteArray):Bool:=decide (1<=s.size) && decide (s.size<=24) && !(s.toList==[48]) && !(s.toList==[49]) && s.data.toList.all okB
def fnd:List ByteArray->ByteArray->Nat
 |[],_=>0
 |y::l,x=>if y=x then 1 else if fnd l x=0 then 0 else fnd l x+1
def firsts(l:List ByteArray)(k:Nat):Prop:=∀i,i<k->nmd (l.getD i ByteArray.empty)=true/\fnd (l.take i) (l.getD i ByteArray.empty)=0
instance (l:List ByteArray) (k:Nat):Decidable (firsts l k):=by unfold firsts;infer_instance
def tab(l:List ByteArray):Bool:=decide (1<=l.length) && decide (l.length<=32) && decide (firsts l l.length)
end Go.Proofs.YthbhgelncdnmgaaGreatDoor
namespace Go.Proofs.YthbhgelncdnmgaaGreatDoor
open Go.RowKit
structure Rd (w:World) (xs:List Value) (A:Option Addr) (n c:Nat):Prop where
 len:n=xs.length
 cap:n<=c
 cells:0<n->∃b o,A=some ⟨b,o,none⟩/\b<w.heap.size/\∀(k:Nat) (x:Value),xs[k]? =some x->w.cell? ⟨b,o+k,none⟩=some x
theorem Rd.keep{w w':World}{xs:List Value}{A:Option Addr}{n c:Nat}(h:Rd w xs A n c)(hs:w.heap.size<=w'.heap.size)(hk:∀b,b<w.heap.size->w'.heap[b]? =w.heap[b]?):Rd w' xs A n c:=
 ⟨h.len,h.cap,fun hn=>by
  obtain⟨b,o,hA,hb,hc⟩:=h.cells hn;exact⟨b,o,hA,by omega,fun k x hx=>(World.cell?_of_block (w:=w) (hk b hb)).trans (hc k x hx)⟩⟩
theorem Rd.below{w w':World}{xs:List Value}{A:Option Addr}{n c:Nat}(h:Rd w xs A n c)(hb:Below w.heap.size w w'):Rd w' xs A n c:=h.keep hb.size hb.block
theorem Rd.nil(w:World)(A:Option Addr)(c:Nat):Rd w [] A 0 c:=⟨rfl,Nat.zero_le _,fun h=>absurd h (by omega)⟩
theorem Rd.take{w:World}{xs:List Value}{A:Option Addr}{n c:Nat}(h:Rd w xs A n c){k:Nat}(hk:k<=n):Rd w (xs.take k) A k c:=
 ⟨by rw [List.length_take,Nat.min_eq_left (by have:=h.len;omega)],by have:=h.cap;omega,fun hn=>by
  obtain⟨b,o,hA,hb,hc⟩:=h.cells (by omega);refine⟨b,o,hA,hb,fun j x hx=>hc j x ?_⟩;rw [List.getElem?_take]at hx;split at hx
  ·exact hx
  ·cases hx⟩
theorem Rd.at_{w:World}{xs:List Value}{A:Option Addr}{n c:Nat}(h:Rd w xs A n c){k:Nat}(hk:k<n):
 ∃b o x,A=some ⟨b,o,none⟩/\b<w.heap.size/\xs[k]? =some x/\w.cell? ⟨b,o+k,none⟩=some x:=by
 obtain⟨b,o,hA,hb,hc⟩:=h.cells (by omega);have hl:k<xs.length:=by have:=h.len;omega
 exact⟨b,o,xs[k],hA,hb,List.getElem?_eq_getElem hl,hc k _ (List.getElem?_eq_getElem hl)⟩
end Go.Proofs.YthbhgelncdnmgaaGreatDoor
