import Derived.Test.YthbhgelncdnmgaaGreatDoorY12
import Derived.Maps.OwnOps
import Derived.Maps.Views
import Derived.DeepKeys4
set_option linter.unusedVariables false
set_option linter.unusedSimpArgs false
namespace Go.Proofs.YthbhgelncdnmgaaGreatDoor
open Go.Proofs.Tryz
open Go.RowKit
abbrev exV(e:Ex):Value:=.agg #[.int .i64 (e.1:Int),.int .i64 (e.2.1:Int),.int .i64 (e.2.2:Int)]
abbrev RV(v:Value):Option (DataW Value × List MemPlace):=some (.held v,[])
abbrev zR:Value:=.agg #[.bool false,.slice none 0 0,.slice none 0 0]
theorem laidOutP:laidOutB prog=true:=by kernel_rfl
theorem keyed:Go.Maps.Keyed prog 147:=
 Go.Maps.Keyed.of_law (deep_law_laid laidOutP (m:=2) (by omega) (of_decide_eq_true (by kernel_rfl)) (by kernel_rfl) (by rw [underlying147]))
theorem Qvx:(allE.all fun e=>(keyOf prog 147 (exV e)).isSome)=true:=by kernel_rfl
theorem Qly:∃f:Ex->Lit,∀e,deg e<=5->keyOf prog 147 (exV e)=some (f e):=by
 have h:∀e:Ex,∃l,deg e<=5->keyOf prog 147 (exV e)=some l:=fun e=>by
  by_cases he:deg e<=5
  ·have h:=List.all_eq_true.1 Qvx e ((Qdo e).2 he)
   obtain⟨l,hl⟩:=Option.isSome_iff_exists.1 h;exact⟨l,fun _=>hl⟩
  ·exact⟨.bool false,fun h=>absurd h he⟩
 exact⟨fun e=>Classical.choose (h e),fun e=>Classical.choose_spec (h e)⟩
noncomputable def klOf:Ex->Lit:=Classical.choose Qly
theorem Qh6{e:Ex}(he:deg e<=5):keyOf prog 147 (exV e)=some (klOf e):=Classical.choose_spec Qly e he
theorem Qyl{e f:Ex}(h:exV e=exV f):e=f:=by
 obtain⟨a,b,c⟩:=e;obtain⟨a',b',c'⟩:=f;simp only [exV,Value.agg.injEq,Array.mk.injEq,List.cons.injEq,Value.int.injEq,true_and,and_true]at h;simp only [Prod.mk.injEq];omega
theorem Qxh{e f:Ex}(he:deg e<=5)(hf:deg f<=5)(h:klOf e=klOf f):e=f:=Qyl (keyed.inj (Qh6 he) (h▸Qh6 hf))
theorem Qxi{e:Ex}(he:deg e<=5):WideAt.IsKeyLit (klOf e):=keyed.key (Qh6 he)
structure Sums (w:World) (b n:Nat) (c:Co):Prop where
 own:∃D:DataW Value,w.ownsMap prog 147 RV b n D/\(∀l,Go.Maps.has D l=true->∃e,deg e<=5/\l=klOf e)/\
  ∀e,deg e<=5->∃v,D.atKey (klOf e) (.held zR)=.held v/\RatQ w v (c e)
theorem Sums.lt{w:World}{b n:Nat}{c:Co}(h:Sums w b n c):b<w.heap.size:=by
 obtain⟨D,h1,_⟩:=h.own;exact h1.lt
theorem Sums.map{w:World}{b n:Nat}{c:Co}(h:Sums w b n c):∃es ck,w.heap[b]? =some (.map es ck):=by
 obtain⟨D,⟨es,ck,h1,_⟩,_⟩:=h.own;exact⟨es,ck,h1⟩
theorem Sums.keep{w w':World}{b n:Nat}{c:Co}(h:Sums w b n c)(hs:w.heap.size<=w'.heap.size)(hk:∀k,k<w.heap.size->w'.heap[k]? =w.heap[k]?)(hb:Below w.heap.size w w'):Sums w' b n c:=by
 obtain⟨D,⟨es,ck,h1,h2⟩,h3,h4⟩:=h.own;refine⟨D,⟨es,ck,(hk b (Qas h1)).trans h1,h2⟩,h3,fun e he=>?_⟩;obtain⟨v,hv,hr⟩:=h4 e he;exact⟨v,hv,hr.below hb⟩
theorem Sums.below{w w':World}{b n:Nat}{c:Co}(h:Sums w b n c)(hb:Below w.heap.size w w'):Sums w' b n c:=h.keep hb.size hb.block hb
theorem Sums.congr{w:World}{b n:Nat}{c d:Co}(h:Sums w b n c)(hcd:∀e,deg e<=5->c e=d e):Sums w b n d:=by
 obtain⟨D,h1,h2,h3⟩:=h.own;refine⟨D,h1,h2,fun e he=>?_⟩;obtain⟨v,hv,hr⟩:=h3 e he;exact⟨v,hv,hcd e he▸hr⟩
theorem Sums.made(w:World):Sums (w.alloc (.map #[] 0)) w.heap.size 0 zeroC:=
 ⟨.map [],World.ownsMap_made w _ _ _,fun l h=>by simp [Go.Maps.has]at h,fun e _=>⟨zR,rfl,Qfx _⟩⟩
theorem Num.grm{w w':World}{l:List Nat}{A:Option Addr}{n c b:Nat}(h:Num w l A n c)(hg:w.grownBy w' (some b)){es:Array MapEntry}{ck:Nat}(hm:w.heap[b]? =some (.map es ck)):Num w' l A n c:=by
 refine⟨h.len,h.cap,h.lim,fun hn=>?_⟩;obtain⟨b',o,hA,hb,hc⟩:=h.cells hn;have hne:b'≠b:=fun e=>by
  subst e;obtain⟨x,hx⟩:∃x,l[0]? =some x:=⟨l[0]'(by have:=h.len;omega),List.getElem?_eq_getElem _⟩;have:=hc 0 x hx;simp [World.cell?,hm]at this
 have hblk:=hg.block b' hb (fun e=>hne (Option.some.inj e));exact⟨b',o,hA,Nat.lt_of_lt_of_le hb hg.size,fun k x hx=>(World.cell?_of_block (w:=w) hblk).trans (hc k x hx)⟩
theorem RatQ.grm{w w':World}{v:Value}{q:Rat}{b:Nat}(h:RatQ w v q)(hg:w.grownBy w' (some b)){es:Array MapEntry}{ck:Nat}(hm:w.heap[b]? =some (.map es ck)):RatQ w' v q:=by
 obtain⟨A,n,c,A',m,c',e,h1,h2⟩:=h;exact⟨A,n,c,A',m,c',e,h1.grm hg hm,h2.grm hg hm⟩
theorem Qo6(w:World):(zeroValue 27).run prog w=.ok zR w:=by kernel_rfl
theorem Sums.look{w:World}{b n:Nat}{c:Co}(h:Sums w b n c){e:Ex}(he:deg e<=5):
 ∃v,(Instr.lookup 145 (.map (some b)) (exV e) false).run prog w=.ok v w/\RatQ w v (c e):=by
 obtain⟨D,h1,_,h3⟩:=h.own;obtain⟨v,ps,hrun,hv⟩:=h1.lookup keyed underlying145 (Qo6 w) (zd:=.held zR) (zp:=[]) rfl (Qh6 he);obtain⟨v',hv',hr⟩:=h3 e he;have:DataW.held v=DataW.held v':=by
  have h5:(DataW.held v:DataW Value)=D.atKey (klOf e) (.held zR):=by simpa using congrArg Prod.fst (Option.some.inj hv)
  rw [h5,hv']
 obtain rfl:v=v':=by injection this
 exact⟨v,hrun,hr⟩
theorem Sums.put{w:World}{b n:Nat}{c:Co}(h:Sums w b n c)(hn:n<=1000000){e:Ex}(he:deg e<=5){v:Value}{x:Rat}(hv:RatQ w v x):
 ∃w',(Instr.mapUpdate 145 (.map (some b)) (exV e) v).run prog w=.ok () w'/\Sums w' b (n+1) (setAt c e x)/\w.grownBy w' (some b):=by
 obtain⟨D,h1,h2,h3⟩:=h.own;obtain⟨es,ck,hm⟩:=h.map;obtain⟨w',hrun,hown,hg⟩:=h1.update keyed underlying145 (Nat.lt_of_le_of_lt hn (by unfold maxLen;omega)) (val:=v) (d:=.held v) (ps:=[]) (Qh6 he) rfl;have hmap:Go.Maps.IsMap D:=by
  obtain⟨es',_,_,_,_,hD⟩:=h1;exact⟨_,hD⟩
 refine⟨w',hrun,⟨D.put (klOf e) (.held v),hown,fun l hl=>?_,fun f hf=>?_⟩,hg⟩
 ·by_cases hle:l=klOf e
  ·exact⟨e,he,hle⟩
  ·rw [Go.Maps.has_put_other hle]at hl
   exact h2 l hl
 ·by_cases hfe:f=e
  ·subst hfe
   refine⟨v,Go.Maps.atKey_put_same hmap (Qxi hf) _ _,?_⟩;unfold setAt;rw [if_pos rfl];exact hv.grm hg hm
  ·obtain⟨v',hv',hr⟩:=h3 f hf
   refine⟨v',?_,?_⟩
   ·rw [Go.Maps.atKey_put_other (fun hh=>hfe (Qxh hf he hh))];exact hv'
   ·unfold setAt
    rw [if_neg hfe];exact hr.grm hg hm
theorem Qtd(c:Co)(e:Ex)(x:Rat):setAt c e (c e+x)=addAt c e x:=by
 funext f
 unfold setAt addAt;by_cases h:f=e
 ·rw [if_pos h,if_pos h,h]
 ·rw [if_neg h,if_neg h];grind
end Go.Proofs.YthbhgelncdnmgaaGreatDoor
