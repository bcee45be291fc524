import Derived.Test.YthbhgelncdnmgaaGreatDoorY25
import Derived.Test.YthbhgelncdnmgaaGreatDoorY26
set_option linter.unusedVariables false
set_option linter.unusedSimpArgs false
set_option maxRecDepth 20000
set_option maxHeartbeats 2000000
namespace Go.Proofs.YthbhgelncdnmgaaGreatDoor
open Go.Proofs.Tryz
open Nat (le_refl)
open Go.RowKit
theorem ret_ca{fn:Func}{p:Tmp}{t:TypeId}{l:List Value}{n:Nat}{e:TypeId}(hres:fn.results=#[.cell p t])(hu:prog.underlying t=some (.array n e))(hn:(prog.info? t).map (·.size)=some l.length){R:Ending->World->Prop}{a:Act}{w:World}{g:Nat}(hp:a.tmps.getD p undef=.pointer (some ⟨g,0,none⟩))(h:Cs w g l t)(hd:a.defers=[])
 (hR:R (.returned (.agg l.toArray)) w):bodyPost prog fn R .ret a w:=
 bodyPost_ret (results_cell_row (P:=prog) hres _ _ g t _ (0,0) _ hp h hu rfl hn) hd hR
abbrev e3(a b c:Int):List Value:=[.int .i64 a,.int .i64 b,.int .i64 c]
theorem Qvy(a b c:Int):(∀w:World,(Instr.index 147 (.agg #[.int .i64 a,.int .i64 b,.int .i64 c]) (.int .i64 0)).run prog w=.ok (.int .i64 a) w)/\
 (∀w:World,(Instr.index 147 (.agg #[.int .i64 a,.int .i64 b,.int .i64 c]) (.int .i64 1)).run prog w=.ok (.int .i64 b) w)/\
 (∀w:World,(Instr.index 147 (.agg #[.int .i64 a,.int .i64 b,.int .i64 c]) (.int .i64 2)).run prog w=.ok (.int .i64 c) w):=
 ⟨fun _=>by kernel_rfl,fun _=>by kernel_rfl,fun _=>by kernel_rfl⟩
theorem Qvz(a b c a' b' c':Int)(w:World)(h1:0<=a/\a<=100)(h2:0<=b/\b<=100)(h3:0<=c/\c<=100)(k1:0<=a'/\a'<=100)(k2:0<=b'/\b'<=100)(k3:0<=c'/\c'<=100):
 Calls prog 233 #[eV a b c,eV a' b' c'] w (RetV w (eV (a+a') (b+b') (c+c'))):=by
 obtain⟨hbA,c1,c2,c3⟩:=blk3 w (e3 a b c) (e3 a' b' c') (e3 0 0 0) 147 147 147;obtain⟨i0,i1,i2⟩:=Qvy a' b' c';have w0:IntKind.i64.wrap (a+a')=a+a':=IntWalk.i64_in _ (by omega);have w1:IntKind.i64.wrap (b+b')=b+b':=IntWalk.i64_in _ (by omega);have w2:IntKind.i64.wrap (c+c')=c+c':=IntWalk.i64_in _ (by omega);have hne1:w.heap.size≠w.heap.size+1+1:=by omega
 clear h1 h2 h3 k1 k2 k3;go_enter func233,ntmps233;go_wp2_with fail
 generalize (((w.alloc (E3 a b c)).alloc (E3 a' b' c')).alloc (E3 0 0 0))=W at*
 have n2:w.heap.size+1≠w.heap.size:=by omega
 have n3:w.heap.size+1+1≠w.heap.size:=by omega
 have r0:W.cell? ⟨w.heap.size+1,0,none⟩=some (.int .i64 a'):=c2.cell rfl;have r1:W.cell? ⟨w.heap.size+1,1,none⟩=some (.int .i64 b'):=c2.cell rfl;have r2:W.cell? ⟨w.heap.size+1,2,none⟩=some (.int .i64 c'):=c2.cell rfl;have y0:W.cell? ⟨w.heap.size,0,none⟩=some (.int .i64 a):=c1.cell rfl;have f0:=c1.frozen 0;go_wp2_with fail
 refine wp_loop_rounds 4 ?_;rw [rounds_succ];go_wp2_with fail
 replace c1:=c1.set 0 (.int .i64 (a+a'));replace c3:=c3.far (p:=⟨w.heap.size,0,none⟩) n3 (.int .i64 (a+a'));replace hbA:=hbA.setCell (p:=⟨w.heap.size,0,none⟩) (le_refl _) (.int .i64 (a+a'));clear y0 f0 r0 r1 r2 c2;generalize W.setCell ⟨w.heap.size,0,none⟩ (.int .i64 (a+a'))=W1 at*
 have y0:W1.cell? ⟨w.heap.size,1,none⟩=some (.int .i64 b):=c1.cell rfl;have f0:=c1.frozen 1;rw [rounds_succ];go_wp2_with fail
 replace c1:=c1.set 1 (.int .i64 (b+b'));replace c3:=c3.far (p:=⟨w.heap.size,1,none⟩) n3 (.int .i64 (b+b'));replace hbA:=hbA.setCell (p:=⟨w.heap.size,1,none⟩) (le_refl _) (.int .i64 (b+b'));clear y0 f0;generalize W1.setCell ⟨w.heap.size,1,none⟩ (.int .i64 (b+b'))=W2 at*
 have y0:W2.cell? ⟨w.heap.size,2,none⟩=some (.int .i64 c):=c1.cell rfl;have f0:=c1.frozen 2;rw [rounds_succ];go_wp2_with fail
 replace c1:=c1.set 2 (.int .i64 (c+c'));replace c3:=c3.far (p:=⟨w.heap.size,2,none⟩) n3 (.int .i64 (c+c'));replace hbA:=hbA.setCell (p:=⟨w.heap.size,2,none⟩) (le_refl _) (.int .i64 (c+c'));clear y0 f0;generalize W2.setCell ⟨w.heap.size,2,none⟩ (.int .i64 (c+c'))=W3 at*
 have s0:W3.cell? ⟨w.heap.size,0,none⟩=some (.int .i64 (a+a')):=c1.cell rfl;have s1:W3.cell? ⟨w.heap.size,1,none⟩=some (.int .i64 (b+b')):=c1.cell rfl;have s2:W3.cell? ⟨w.heap.size,2,none⟩=some (.int .i64 (c+c')):=c1.cell rfl;have g0:=c3.frozen 0;have g1:=c3.frozen 1;have g2:=c3.frozen 2;have q0:W3.cell? ⟨w.heap.size+1+1,0,none⟩=some (.int .i64 0):=c3.cell rfl;have q1:W3.cell? ⟨w.heap.size+1+1,1,none⟩=some (.int .i64 0):=c3.cell rfl;have q2:W3.cell? ⟨w.heap.size+1+1,2,none⟩=some (.int .i64 0):=c3.cell rfl;rw [rounds_succ];go_wp2_with fail
 refine ret_ca results233 underlying147 (by kernel_rfl) rfl (Qrx c3 rfl _ _ _) rfl ?_;exact⟨rfl,Qot hbA (by omega) _ _ _⟩
theorem Qgl{a b c:Nat}:knownI ((a:Int),(b:Int),(c:Int))=decide (a+b+c<=5):=by
 unfold knownI;exact decide_eq_decide.2 (by simp only;omega)
end Go.Proofs.YthbhgelncdnmgaaGreatDoor
