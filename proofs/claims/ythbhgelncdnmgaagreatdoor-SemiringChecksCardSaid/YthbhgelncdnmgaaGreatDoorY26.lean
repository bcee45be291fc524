import Derived.Test.YthbhgelncdnmgaaGreatDoorY11
import Derived.Laws.EntriesVeiled
set_option linter.unusedVariables false
set_option linter.unusedSimpArgs false
set_option maxRecDepth 20000
set_option maxHeartbeats 2000000
namespace Go.Proofs.YthbhgelncdnmgaaGreatDoor
open Go.Proofs.Tryz
open Go.RowKit
abbrev copsL(b1 b2:Nat):List Value:=[fv 120,cln b1 b2,fv 119,fv 121,fv 122,fv 123,fv 124,fv 125,fv 126,fv 127]
abbrev cops(b1 b2:Nat):Value:=.agg #[fv 120,cln b1 b2,fv 119,fv 121,fv 122,fv 123,fv 124,fv 125,fv 126,fv 127]
def CCl(w:World)(b1 b2:Nat):Prop:=Cl w b1 b2 (fv 120) (fv 119)
theorem Qbz{fn:Func}{p u:Tmp}{t:TypeId}{l:List Value}{fs:Array Field}(hres:fn.results=#[.cell p t,.tmp u])(hu:prog.underlying t=some (.struct fs))(hn:(prog.info? t).map (·.size)=some l.length){R:Ending->World->Prop}{a:Act}{w:World}{g:Nat}{x:Value}(hp:a.tmps.getD p undef=.pointer (some ⟨g,0,none⟩))(hx:a.tmps.getD u undef=x)(h:Cs w g l t)(hd:a.defers=[])
 (hR:R (.returned (.tuple #[.agg l.toArray,x])) w):bodyPost prog fn R .ret a w:=by
 refine bodyPost_ret (v:=.tuple #[.agg l.toArray,x]) ?_ hd hR;have hp':a.tmps[p]?.getD undef=.pointer (some ⟨g,0,none⟩):=by simpa using hp
 have hx':a.tmps[u]?.getD undef=x:=by simpa using hx
 simp [results,hres,hp',hx',asAddr,run_loadVar_row w g t t l.toArray (0,0) _ h hu rfl hn]
theorem blk4(w:World)(l l' l'' l3:List Value)(t t' t'' t3:TypeId):Below w.heap.size w ((((w.alloc (.cells l.toArray t)).alloc (.cells l'.toArray t')).alloc (.cells l''.toArray t'')).alloc (.cells l3.toArray t3))/\Cs ((((w.alloc (.cells l.toArray t)).alloc (.cells l'.toArray t')).alloc (.cells l''.toArray t'')).alloc (.cells l3.toArray t3)) w.heap.size l t/\
 Cs ((((w.alloc (.cells l.toArray t)).alloc (.cells l'.toArray t')).alloc (.cells l''.toArray t'')).alloc (.cells l3.toArray t3)) (w.heap.size+1) l' t'/\Cs ((((w.alloc (.cells l.toArray t)).alloc (.cells l'.toArray t')).alloc (.cells l''.toArray t'')).alloc (.cells l3.toArray t3)) (w.heap.size+1+1) l'' t''/\Cs ((((w.alloc (.cells l.toArray t)).alloc (.cells l'.toArray t')).alloc (.cells l''.toArray t'')).alloc (.cells l3.toArray t3)) (w.heap.size+1+1+1) l3 t3:=by
 obtain⟨h1,h2,h3,h4⟩:=blk3 w l l' l'' t t' t'';have h5:=Cs.new (((w.alloc (.cells l.toArray t)).alloc (.cells l'.toArray t')).alloc (.cells l''.toArray t'')) l3 t3;rw [show(((w.alloc (.cells l.toArray t)).alloc (.cells l'.toArray t')).alloc (.cells l''.toArray t'')).heap.size=w.heap.size+1+1+1 by simp]at h5;exact⟨h1.alloc (by simp;omega) _,h2.alloc _,h3.alloc _,h4.alloc _,h5⟩
theorem Cs.ne_len{w:World}{g g':Nat}{l l':List Value}{t t':TypeId}(h:Cs w g l t)(h':Cs w g' l' t')(hl:l.length≠l'.length):g≠g':=by
 intro e;subst e;have e:=h.symm.trans h';injection e with e;injection e with e1;exact hl (by have:=congrArg Array.size e1;simpa using this)
theorem Cl.s8{w:World}{b1 b2 g:Nat}{f f':Value}(h:Cl w b1 b2 f f'){l:List Value}{t:TypeId}(hc:Cs w g l t)(hl:1≠l.length)(u0 u1 u2 u3 u4 u5 u6 u7:Value):Cl ((((((((w.setCell ⟨g,0,none⟩ u0).setCell ⟨g,1,none⟩ u1).setCell ⟨g,2,none⟩ u2).setCell ⟨g,3,none⟩ u3).setCell ⟨g,4,none⟩ u4).setCell ⟨g,5,none⟩ u5).setCell ⟨g,6,none⟩ u6).setCell ⟨g,7,none⟩ u7) b1 b2 f f':=⟨Qbo h.1 (h.1.ne_len hc hl) _ _ _ _ _ _ _ _,Qbo h.2 (h.2.ne_len hc hl) _ _ _ _ _ _ _ _⟩
theorem Cl.s10{w:World}{b1 b2 g:Nat}{f f':Value}(h:Cl w b1 b2 f f'){l:List Value}{t:TypeId}(hc:Cs w g l t)(hl:1≠l.length)(u0 u1 u2 u3 u4 u5 u6 u7 u8 u9:Value):Cl ((((((((((w.setCell ⟨g,0,none⟩ u0).setCell ⟨g,1,none⟩ u1).setCell ⟨g,2,none⟩ u2).setCell ⟨g,3,none⟩ u3).setCell ⟨g,4,none⟩ u4).setCell ⟨g,5,none⟩ u5).setCell ⟨g,6,none⟩ u6).setCell ⟨g,7,none⟩ u7).setCell ⟨g,8,none⟩ u8).setCell ⟨g,9,none⟩ u9) b1 b2 f f':=⟨Qcf h.1 (h.1.ne_len hc hl) _ _ _ _ _ _ _ _ _ _,Qcf h.2 (h.2.ne_len hc hl) _ _ _ _ _ _ _ _ _ _⟩
theorem Qte(w:World):Calls prog 87 #[] w (fun e w'=> ∃b1 b2,e=.returned (cops b1 b2)/\CCl w' b1 b2/\Below w.heap.size w w'):=by
 obtain⟨hb0,c1⟩:=blk1 w [.nilFunc,.nilFunc,.nilFunc,.nilFunc,.nilFunc,.nilFunc,.nilFunc,.nilFunc,.nilFunc,.nilFunc] 63;go_enter func87,ntmps87;go_wp2_with fail
 refine(Qe7 _ _ _ _ _).mono ?_;rintro e w1 ⟨b1,b2,rfl,hC,hb1⟩;replace hb0:=bt hb0 hb1;replace c1:=c1.below hb1 c1.lt;clear hb1;obtain⟨a0,a1,a2,a3,a4,a5,a6,a7,a8,a9⟩:=c1.c10;obtain⟨f0,f1,f2,f3,f4,f5,f6,f7⟩:=c1.f8;have f8:=c1.frozen 8;have f9:=c1.frozen 9;go_wp2_with fail
 refine Qak (l:=copsL b1 b2) results87 underlying63 (by kernel_rfl) rfl (Qa5 c1 rfl _ _ _ _ _ _ _ _ _ _) rfl ?_;exact⟨b1,b2,rfl,hC.s10 c1 (by decide) _ _ _ _ _ _ _ _ _ _,Qav hb0 (Nat.le_refl _) _ _ _ _ _ _ _ _ _ _⟩
theorem Qnv(w:World):Calls prog 66 #[.int .i64 2] w (fun e w'=> ∃b1 b2,e=.returned (cops b1 b2)/\CCl w' b1 b2/\Below w.heap.size w w'):=by
 obtain⟨hb0,c1⟩:=blk1 w [.nilFunc,.nilFunc,.nilFunc,.nilFunc,.nilFunc,.nilFunc,.nilFunc,.nilFunc,.nilFunc,.nilFunc] 63;go_enter func66,ntmps66;go_wp2_with fail
 refine(Qte _).mono ?_;rintro e w1 ⟨b1,b2,rfl,hC,hb1⟩;replace hb0:=bt hb0 hb1;replace c1:=c1.below hb1 c1.lt;clear hb1;obtain⟨a0,a1,a2,a3,a4,a5,a6,a7,a8,a9⟩:=c1.c10;obtain⟨f0,f1,f2,f3,f4,f5,f6,f7⟩:=c1.f8;have f8:=c1.frozen 8;have f9:=c1.frozen 9;go_wp2_with fail
 refine Qak (l:=copsL b1 b2) results66 underlying63 (by kernel_rfl) rfl (Qa5 c1 rfl _ _ _ _ _ _ _ _ _ _) rfl ?_;exact⟨b1,b2,rfl,hC.s10 c1 (by decide) _ _ _ _ _ _ _ _ _ _,Qav hb0 (Nat.le_refl _) _ _ _ _ _ _ _ _ _ _⟩
theorem Qep(k:Int)(V:Bool)(w:World)(h:Hid ((decide (1<=k) && decide (k<=5))=V)):Calls prog 38 #[.int .i64 k] w (RetV w (.bool V)):=by
 have HV:=h.out;clear h;by_cases h1:1<=k
 ·by_cases h2:k<=5
  ·have hV:=Lib.hid (show true=V by rw [<-HV];simp [h1,h2])
   clear HV;go_enter func38,ntmps38;go_wp2_with fail
   go_ret;cases hV.out;exact⟨rfl,Below.refl _ _⟩
  ·have hV:=Lib.hid (show false=V by rw [<-HV];simp [h1,h2])
   clear HV;go_enter func38,ntmps38;go_wp2_with fail
   go_ret;cases hV.out;exact⟨rfl,Below.refl _ _⟩
 ·have hV:=Lib.hid (show false=V by rw [<-HV];simp [h1])
  clear HV;go_enter func38,ntmps38;go_wp2_with fail
  go_ret;cases hV.out;exact⟨rfl,Below.refl _ _⟩
end Go.Proofs.YthbhgelncdnmgaaGreatDoor
