import Derived.Test.YthbhgelncdnmgaaGreatDoorY06
import Derived.Lib.ParseIntBCases
import Derived.Test.YthbhgelncdnmgaaGreatDoorY07
set_option linter.unusedVariables false
set_option linter.unusedSimpArgs false
namespace Go.Proofs.YthbhgelncdnmgaaGreatDoor
open Go.RowKit
theorem Qjv{P:Program}{w w':World}{n:String}{cs:Array Value}(h:w.var? P n=some cs)(hk:∀b,b<w.heap.size->w'.heap[b]? =w.heap[b]?):w'.var? P n=some cs:=by
 unfold World.var? at*
 cases hg:P.globalNamed n with
 |none=>rw [hg]at h;exact h
 |some g=>
  rw [hg]at h;simp only [Option.bind_some]at*
  cases ho:w.heap[g]? with
  |none=>rw [ho]at h;cases h
  |some o=>
   rw [hk g (Qas ho),ho];rw [ho]at h;exact h
structure Txt (w:World):Prop where
 tab:Tab w
 pow:Lib.TabIs Tryz.prog w "internal/strconv.uint64pow10" .u64 Lib.pow10Tab
 syn:∃tp p,w.var? Tryz.prog "strconv.ErrSyntax" =some #[.iface tp p]
 max:∃m,w.cell? ⟨7,0,none⟩=some (.int .i64 m)
theorem Txt.keep{w w':World}(h:Txt w)(hk:∀b,b<w.heap.size->w'.heap[b]? =w.heap[b]?):Txt w':=by
 obtain⟨tp,p,hs⟩:=h.syn;obtain⟨m,hm⟩:=h.max;exact⟨h.tab.keep hk,Qjv h.pow hk,⟨tp,p,Qjv hs hk⟩,⟨m,(World.cell?_of_block (w:=w) (hk _ (block_lt_of_cell hm))).trans hm⟩⟩
theorem Txt.below{w w':World}(h:Txt w)(hb:Below w.heap.size w w'):Txt w':=h.keep hb.block
structure TxF (w:World):Prop where
 tab:Tab w
 pow:Lib.TabIs Tryz.prog w "internal/strconv.uint64pow10" .u64 Lib.pow10Tab
theorem Txt.f{w:World}(h:Txt w):TxF w:=⟨h.tab,h.pow⟩
theorem TxF.keep{w w':World}(h:TxF w)(hk:∀b,b<w.heap.size->w'.heap[b]? =w.heap[b]?):TxF w':=⟨h.tab.keep hk,Qjv h.pow hk⟩
theorem TxF.below{w w':World}(h:TxF w)(hb:Below w.heap.size w w'):TxF w':=h.keep hb.block
theorem OwnR.below{w w':World}{B:Nat}{v:Value}{l:List Nat}(h:OwnR w B v l)(hb:Below w.heap.size w w'):OwnR w' B v l:=by
 refine⟨h.1,?_⟩;rcases h.2 with h1|⟨g,cap,cur,h1,h2,h3,h4⟩
 ·exact .inl h1
 ·exact .inr ⟨g,cap,cur,h1,h2,(hb.block g (Qas h3)).trans h3,h4⟩
end Go.Proofs.YthbhgelncdnmgaaGreatDoor
