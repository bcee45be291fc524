import Derived.Test.YthbhgelncdnmgaaGreatDoorY08
import Derived.Lib.AppendStr
import Derived.RangeFuncBox
set_option linter.unusedVariables false
set_option linter.unusedSimpArgs false
set_option maxRecDepth 20000
set_option maxHeartbeats 1000000
namespace Go.Proofs.YthbhgelncdnmgaaGreatDoor
open Go.Proofs.Tryz
open Go.RowKit
theorem Qys:∃i,prog.info? 5=some i/\i.zero=some (.int .u8 0)/\i.size=1/\i.bytes=1:=by
 have h:(prog.info? 5).map (fun i=>(i.zero,i.size,i.bytes))=some (some (.int .u8 0),1,1):=by kernel_rfl
 obtain⟨i,hi,hz⟩:=Option.map_eq_some_iff.1 h;simp only [Prod.mk.injEq]at hz;exact⟨i,hi,hz.1,hz.2.1,hz.2.2⟩
def OwnB(w:World)(B:Nat)(v:Value)(l:List UInt8):Prop:=w.ownsRow B 5 1 v l.length (Lib.byteCells l)
theorem OwnB.nil(w:World)(B:Nat):OwnB w B (.slice none 0 0) []:=World.ownsRow_nil ..
theorem OwnB.lt{w:World}{B:Nat}{v:Value}{l:List UInt8}(h:OwnB w B v l):∀k,v.ownBlock=some k->B<=k/\k<w.heap.size:=World.ownsRow.lt h
theorem OwnB.alloc{w:World}{B:Nat}{v:Value}{l:List UInt8}(h:OwnB w B v l)(o:Obj):OwnB (w.alloc o) B v l:=World.ownsRow.alloc h o
theorem OwnB.drew{w:World}{B:Nat}{v:Value}{l:List UInt8}(h:OwnB w B v l):OwnB w.drew B v l:=h
theorem OwnB.keep{w w':World}{B:Nat}{v:Value}{l:List UInt8}(h:OwnB w B v l)(hk:∀k,v.ownBlock=some k->w'.heap[k]? =w.heap[k]?):OwnB w' B v l:=by
 refine⟨h.1,?_⟩;rcases h.2 with h1|⟨g,cap,cur,h1,h2,h3,h4⟩
 ·exact .inl h1
 ·exact .inr ⟨g,cap,cur,h1,h2,(hk g (by rw [h1];rfl)).trans h3,h4⟩
theorem OwnB.shape{w:World}{B:Nat}{v:Value}{l:List UInt8}(h:OwnB w B v l):∃A c,v=.slice A l.length c:=by
 rcases h.2 with⟨rfl,hn⟩|⟨g,cap,cur,rfl,_⟩
 ·exact⟨none,0,by rw [hn]⟩
 ·exact⟨_,cap,rfl⟩
def RetTx(w0:World)(B:Nat)(l:List UInt8)(e:Ending)(w':World):Prop:=∃v',e=.returned v'/\OwnB w' B v' l/\Below B w0 w'/\Lib.OthersKept 5 none w0 w'
theorem Qff{w:World}{ops:Array Oper}{rest:List Oper}{o:Oper}{a:Act}{Q:Exit->Act->World->Prop}(hgd:o.guard=none)(s x:Operand)
 (ho:o.op=.call {callee:=.builtin .append,args:=#[s,x],argTypes:=#[137,137]})(hty:o.type=137)(B:Nat)(v:Value)(l:List UInt8)(c:UInt8)(hs:a.eval s=v)(hown:OwnB w B v l)
 (g:Nat)(hx:a.eval x=.slice (some ⟨g,0,none⟩) 1 1)(hc:w.cell? ⟨g,0,none⟩=some (.int .u8 (c.toNat:Int)))(hsum:l.length<=1000000000)(hB:B<=w.heap.size)
 (h:∀v' w',OwnB w' B v' (l++[c])->w.grownBy w' v.ownBlock->wpList prog ops Q rest (a.put o.dst v') w'):wpList prog ops Q (o::rest) a w:=by
 obtain⟨i,hi,hz,hsz,hby⟩:=Qys;refine wpList_plain hgd fun K hK=>?_
 obtain⟨v',w',hrun,h2,h3,_,_⟩:=run_append_own_at (P:=prog) w B 137 137 5 i (.int .u8 0) 1 1 underlying137 hi hz hsz hby rfl (by omega) v l.length (Lib.byteCells l) hown ⟨g,0,none⟩ 1 1 [.int .u8 (c.toNat:Int)] rfl
  (fun j u hju=>by
   match j,hju with
   |0,hju=>simp at hju;subst hju;simpa [Addr.add] using hc) (by intro u hu;simp at hu;subst hu;rfl) (by unfold maxLen;omega) (by omega) hB
 unfold Oper.wp;simp [execOp,ho,hty,resolve,invoke,builtin,hs,hx,hrun,Result.andThen];refine hK _ _ (h v' w' ?_ h3);unfold OwnB;rw [List.length_append,Lib.byteCells_append];exact h2
theorem Qiq(B u:Nat)(v:Value)(l:List UInt8)(w:World)(hT:TxF w)(hown:OwnB w B v l)(hB:B<=w.heap.size)(hl:l.length<=1000000000)(hu:u<18446744073709551616):
 Calls prog 225 #[v,.int .u64 (u:Int),.int .i64 10] w (RetTx w B (l++Lib.decDigits u)):=by
 go_enter func225,ntmps225;go_wp2_with fail
 refine(Lx.Tryz.internal_strconv_AppendUint_10 B l.length u hu v (Lib.byteCells l) _ hown hB (by omega) hT.pow).mono ?_;rintro e w1 ⟨v1,rfl,h1,hb1,ho1⟩;go_wp2_with fail
 go_ret;refine⟨v1,rfl,?_,hb1,ho1⟩;unfold OwnB;rw [List.length_append,Lib.byteCells_append];exact h1
end Go.Proofs.YthbhgelncdnmgaaGreatDoor
