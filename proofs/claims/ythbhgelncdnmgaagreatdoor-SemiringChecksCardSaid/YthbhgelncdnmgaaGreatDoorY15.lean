import Derived.Test.YthbhgelncdnmgaaGreatDoorRows
import Derived.Test.YthbhgelncdnmgaaGreatDoorY14
import Derived.Lib.LaidTab
import Derived.LaidSub
import Derived.LaidLaws
import Derived.MakeChecks
import Derived.Shelf.Vars
import Derived.HandedShaped
import Derived.Handed
import Derived.Lib.SmallJoins
import Derived.ChangeSlices
import Derived.Carry
import Derived.ProofKit
import Derived.LaidMore
import Derived.ChangeSame
import Derived.Stop.Joined
import Derived.Lay
set_option linter.unusedVariables false
set_option linter.unusedSimpArgs false
namespace Go.Proofs.YthbhgelncdnmgaaGreatDoor
open Go.Proofs.Tryz
open Go Go.ChangeShapes Go.WideShapes Go.RowKit
def lay9:List (String × DataW Unit):=Rows.semiringTakesStrangersAsZeroRow.laid
theorem own9:ownKnob prog.godebug=none:=by kernel_rfl
theorem Qnl{W:World}{name:String}{zs:List Int}{k:IntKind}{g:Nat}{t e:TypeId}{n:Nat}(h:laidMetH prog lay9 W)(hf:lay9.filter (fun x=>x.1==name)=[(name,Lib.tabData k zs)])(hnh:([(name,Lib.tabData (H:=Unit) k zs)].all fun x=>x.2.handleName?.isNone)=true)
 (hg:prog.globalNamed name=some g)(hty:(prog.globals[g]?).map (·.type)=some t)(ht:prog.underlying t=some (.array n e))(he:prog.underlying e=some (.int k))(hce:prog.cellsOf e=1)(hct:prog.cellsOf t=n):Lib.TabIs prog W name k zs:=by
 have h1:=h.filter (fun x=>x.1==name);rw [hf,MakeChecks.laidMetH_plain _ _ _ hnh]at h1;exact Lib.tabIs_of_head hg hty ht he hce hct h1
theorem Qyd{W:World}(h:laidMetH prog lay9 W):∃tp p,W.var? prog "strconv.ErrSyntax" =some #[.iface tp p]:=by
 have h1:=h.filter (fun x=>x.1== "strconv.ErrSyntax");have hf:lay9.filter (fun x=>x.1== "strconv.ErrSyntax")=[("strconv.ErrSyntax",Rows.laid_strconv_ErrSyntax)]:=by rfl
 rw [hf,MakeChecks.laidMetH_plain _ _ _ (by rfl)]at h1;obtain⟨ps,⟨g0,t0,cs0,f0,p0,q0,hg0,ht0,hv0,hd0,_,_⟩,_⟩:=h1;have hg:prog.globalNamed "strconv.ErrSyntax" =some 2:=by kernel_rfl
 have ht:(prog.globals[2]?).map (·.type)=some 134:=by kernel_rfl
 obtain rfl:=Option.some.inj (hg.symm.trans hg0);obtain rfl:=Option.some.inj (ht.symm.trans ht0);obtain⟨f1,u,v,hcs,_,_⟩:=iface_of_trod underlying134 hd0;obtain⟨l⟩:=cs0;exact⟨u,v,by rw [hv0];congr 2⟩
theorem Qsl{W:World}(h:laidMetH prog lay9 W)(hs:W.ShapedOpen prog):Txt W:=by
 have t64:Lib.TabIs prog W "math/bits.deBruijn64tab" .u8 (Lib.deBruijn64tab.map fun n:Nat=>(n:Int)):=Qnl h (by rfl) (by rfl) (g:=6) (t:=303) (e:=5) (n:=64) (by kernel_rfl) (by kernel_rfl) underlying303 underlying5 (by kernel_rfl) (by kernel_rfl);have t32:Lib.TabIs prog W "math/bits.deBruijn32tab" .u8 (Lib.deBruijn32tab.map fun n:Nat=>(n:Int)):=Qnl h (by rfl) (by rfl) (g:=10) (t:=339) (e:=5) (n:=32) (by kernel_rfl) (by kernel_rfl) underlying339 underlying5 (by kernel_rfl) (by kernel_rfl);have p10:Lib.TabIs prog W "internal/strconv.uint64pow10" .u64 Lib.pow10Tab:=Qnl h (by rfl) (by rfl) (g:=5) (t:=270) (e:=28) (n:=20) (by kernel_rfl) (by kernel_rfl) underlying270 underlying28 (by kernel_rfl) (by kernel_rfl);refine⟨⟨fun j hj=>?_,fun j hj=>?_⟩,p10,Qyd h,cell_of_shapedOpen_int hs (zero:=#[.int .i64 0]) (t:=3) (by decide) (by kernel_rfl) rfl (by kernel_rfl) (by kernel_rfl) underlying3⟩
 ·have:=t64.cell (g:=6) (by kernel_rfl) j (by simpa using hj)
  rw [this]
  congr 2
  simp [List.getD_eq_getElem?_getD,List.getElem?_map,hj]
 ·have:=t32.cell (g:=10) (by kernel_rfl) j (by simpa using hj)
  rw [this]
  congr 2
  simp [List.getD_eq_getElem?_getD,List.getElem?_map,hj]
section
variable {H:Type} {enc:TypeId × Value->H}
theorem Qcs{a:Assume}{C:Checked}{os:Os}{f:FuncId}{fn:Func}{s:ChangeSpec}{conds:List PathCond}{apart fresh handsOn again:Bool}{X:World->Array Value->Prop}
 (hX:∀(w w':World) (args:Array Value),w.heap=w'.heap->X w args->X w' args)
 (own:ownKnob C.prog.godebug=none)(started:os.Started)(noInit:C.prog.inits.idxOf? f=none)(hfn:C.prog.funcs[f]? =some fn)
 (witness:∃(w:World) (tape:Tape) (i:Input),w.os=os/\(w.forCall tape i).Shaped C.prog/\i.vars=[]/\Input.okWide C.prog (w.forCall tape i) .any w.heap.size f i/\
  ((s.pre enc C.prog fn conds apart (w.forCall tape i).memory i.args/\X (w.forCall tape i).memory i.args)/\sizedMet enc C.prog fn (OpenSpec.ofChange s) apart (w.forCall tape i).memory i.args)/\a.holds C.prog (lone (Frame.enter C.prog f i.args .normal) [] (w.forCall tape i)))
 (contract:∀(W:World) (base:Nat) (args:Array Value) (ds gs:List (DataW H)) (before:List MemPlace),
  (∀(j:Nat) t v,fn.params[j]? =some t->args[j]? =some v->Value.okWide C.prog W .any base t v)->
  DataW.Whole enc C.prog fn.params.toList s.vars apart W args.toList ds gs before->
  W.ShapedOpen C.prog->X W args->
  Calls C.prog f args W fun e W'=> ∃v,e=.returned v/\s.post enc C.prog fn apart fresh handsOn again W args v W'):
 ReturnsInHanded a C os f .any (fun w args=>(s.pre enc C.prog fn conds apart w args/\X w args)/\sizedMet enc C.prog fn (OpenSpec.ofChange s) apart w args) (s.post enc C.prog fn apart fresh handsOn again):=by
 refine returnsInHanded_of_calls own started noInit witness ?_;intro w tape i _ hsh _ hok hpre hholds;obtain⟨_,_,_,fn',hfn',_,_,_,_,hval⟩:=hok;have e:fn'=fn:=Option.some.inj (hfn'.symm.trans hfn);subst e;obtain⟨⟨⟨ds,gs,before,hw,hc⟩,hx⟩,hz⟩:=hpre;have hw':=DataW.Whole.of_heap (w':=w.forCall tape i) (by rfl) hw;refine(contract (w.forCall tape i) w.heap.size i.args ds gs before hval hw' hsh (hX _ _ _ (by rfl) hx)).mono fun e W' ⟨v,he,hp⟩=>?_
 subst he;exact ChangeSpec.post_blind hp
end
theorem Qlk(os:Os)(args:Array Value):laidMetH prog lay9 ((World.laidAll prog os lay9).forCall (fun _ _=>0) ⟨#[],args,[]⟩).memory:=by
 rw [MakeChecks.laidMetH_plain _ _ _ (by kernel_rfl)];exact laidMet_laidAll _ (by kernel_rfl) (by kernel_rfl)
end Go.Proofs.YthbhgelncdnmgaaGreatDoor
