import Derived.Test.YthbhgelncdnmgaaGreatDoorZ23
import Derived.Test.YthbhgelncdnmgaaGreatDoorZ32
import Derived.LoopN
set_option linter.unusedVariables false
set_option linter.unusedSimpArgs false
set_option maxRecDepth 20000
set_option maxHeartbeats 2000000
namespace Go.Proofs.YthbhgelncdnmgaaGreatDoor
open Go.Proofs.Tryz
open Go.RowKit
theorem Qlr(w:World):Calls prog 13 #[.agg #[.int .i64 2,.slice none 0 0]] w (RetV w (.bool true)):=by
 obtain⟨hb0,c1⟩:=blk1 w [.int .i64 2,.slice none 0 0] 24;go_enter func13,ntmps13;go_wp2_with fail
 go_ret;exact⟨rfl,hb0⟩
theorem Qnr(w:World):Calls prog 21 #[.agg #[.int .i64 2,.slice none 0 0]] w (RetV w (tw 0 true)):=by
 obtain⟨hb0,c1,c2,c3⟩:=blk3 w [.int .i64 2,.slice none 0 0] [.bool false,.slice none 0 0,.slice none 0 0,.int .i64 0,.bool false,.int .u64 0,.slice none 0 0,.slice none 0 0] [.bool false,.slice none 0 0,.slice none 0 0,.int .i64 0,.bool false,.int .u64 0,.slice none 0 0,.slice none 0 0] 24 32 32;go_enter func21,ntmps21;go_wp2_with fail
 generalize (((w.alloc (.cells #[.int .i64 2,.slice none 0 0] 24)).alloc (W8t 0 false)).alloc (W8t 0 false))=W0 at*
 refine(Qlr _).mono ?_;rintro e0 w1 ⟨rfl,hb1⟩;replace hb0:=bt hb0 hb1;replace c1:=c1.below hb1 c1.lt;replace c2:=c2.below hb1 c2.lt;replace c3:=c3.below hb1 c3.lt;clear hb1;have r0:=c1.cell (k:=0) rfl;have r1:=c1.cell (k:=1) rfl;obtain⟨a0,a1,a2,a3,a4,a5,a6,a7⟩:=c3.c8;obtain⟨f0,f1,f2,f3,f4,f5,f6,f7⟩:=c3.f8;obtain⟨b0,b1,b2,b3,b4,b5,b6,b7⟩:=c2.c8;obtain⟨g0,g1,g2,g3,g4,g5,g6,g7⟩:=c2.f8;go_wp2_with fail
 refine wp_loop_rounds 1 ?_;rw [rounds_succ];go_wp2_with fail
 have d2:=c2.far (p:=⟨w.heap.size+1+1,4,none⟩) (by simp) (.bool true);refine Qaj (l:=[.bool false,.slice none 0 0,.slice none 0 0,.int .i64 0,.bool true,.int .u64 0,.slice none 0 0,.slice none 0 0]) results21 underlying32 (by kernel_rfl) rfl (Qak d2 rfl _ _ _ _ _ _ _ _) rfl ?_;exact⟨rfl,Qap (hb0.setCell (p:=⟨w.heap.size+1+1,4,none⟩) (by simp;omega) _) (by omega) _ _ _ _ _ _ _ _⟩
theorem Qns:∀k:Nat,k<=6->cmpQ (qv false k 6) 1<=0/\0<=(qv false k 6).num/\(qv false k 6).num.natAbs<=6/\(qv false k 6).den<=6
 |0,_=>by decide+kernel
 |1,_=>by decide+kernel
 |2,_=>by decide+kernel
 |3,_=>by decide+kernel
 |4,_=>by decide+kernel
 |5,_=>by decide+kernel
 |6,_=>by decide+kernel
 |k+7,h=>by omega
theorem Qxk(k L:Nat)(h:k<=6)(hL:1<=L):Sz (qv false k 6) L:=by
 obtain⟨_,_,h1,h2⟩:=Qns k h;exact⟨Nat.le_trans (Qf3 (by omega)) hL,Nat.le_trans (Qf3 (by omega)) hL⟩
end Go.Proofs.YthbhgelncdnmgaaGreatDoor
