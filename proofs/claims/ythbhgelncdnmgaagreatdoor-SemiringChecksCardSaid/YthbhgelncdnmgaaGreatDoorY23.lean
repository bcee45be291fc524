import Derived.Test.YthbhgelncdnmgaaGreatDoorY12
import Derived.LoopN
import Derived.Sort.Grow
set_option linter.unusedVariables false
set_option linter.unusedSimpArgs false
set_option maxRecDepth 20000
set_option maxHeartbeats 2000000
namespace Go.Proofs.YthbhgelncdnmgaaGreatDoor
open Go.Proofs.Tryz
open Go.RowKit
abbrev eV(a b c:Int):Value:=.agg #[.int .i64 a,.int .i64 b,.int .i64 c]
abbrev E3(a b c:Int):Obj:=.cells #[.int .i64 a,.int .i64 b,.int .i64 c] 147
theorem out5(x:Int):decide (x<0)=true\/(decide (x<0)=false/\decide (5<x)=true)\/(decide (x<0)=false/\decide (5<x)=false/\0<=x/\x<=5):=by
 by_cases h:x<0
 ·exact .inl (decide_eq_true h)
 ·by_cases h':5<x
  ·exact .inr (.inl ⟨decide_eq_false h,decide_eq_true h'⟩)
  ·exact .inr (.inr ⟨decide_eq_false h,decide_eq_false h',by omega,by omega⟩)
theorem Qh5(a b c:Int)(w:World)(V:Bool)(H:Hid (knownI (a,b,c)=V)):Calls prog 182 #[eV a b c] w (RetV w (.bool V)):=by
 have hbA:∀o,Below w.heap.size w (w.alloc o):=fun o=>(Below.refl _ _).alloc (Nat.le_refl _) _
 have hi0:∀w:World,(Instr.index 147 (.agg #[.int .i64 a,.int .i64 b,.int .i64 c]) (.int .i64 0)).run prog w=.ok (.int .i64 a) w:=fun _=>by kernel_rfl
 have hi1:∀w:World,(Instr.index 147 (.agg #[.int .i64 a,.int .i64 b,.int .i64 c]) (.int .i64 1)).run prog w=.ok (.int .i64 b) w:=fun _=>by kernel_rfl
 have hi2:∀w:World,(Instr.index 147 (.agg #[.int .i64 a,.int .i64 b,.int .i64 c]) (.int .i64 2)).run prog w=.ok (.int .i64 c) w:=fun _=>by kernel_rfl
 rcases out5 a with h1|⟨h1,h2⟩|⟨h1,h2,h3,h4⟩
 ·go_enter func182,ntmps182
  go_wp2_with fail
  refine wp_loop_rounds 4 ?_;rw [rounds_succ];go_wp2_with fail
  go_ret;exact⟨Qal (by rw [<-H.out];unfold knownI;have:=of_decide_eq_true h1;exact(decide_eq_false (by simp only;omega)).symm),hbA _⟩
 ·go_enter func182,ntmps182
  go_wp2_with fail
  refine wp_loop_rounds 4 ?_;rw [rounds_succ];go_wp2_with fail
  go_ret;exact⟨Qal (by rw [<-H.out];unfold knownI;have:=of_decide_eq_true h2;exact(decide_eq_false (by simp only;omega)).symm),hbA _⟩
 ·rcases out5 b with k1|⟨k1,k2⟩|⟨k1,k2,k3,k4⟩
  ·go_enter func182,ntmps182
   go_wp2_with fail
   refine wp_loop_rounds 4 ?_;rw [rounds_succ];go_wp2_with fail
   rw [rounds_succ];go_wp2_with fail
   go_ret;exact⟨Qal (by rw [<-H.out];unfold knownI;have:=of_decide_eq_true k1;exact(decide_eq_false (by simp only;omega)).symm),hbA _⟩
  ·go_enter func182,ntmps182
   go_wp2_with fail
   refine wp_loop_rounds 4 ?_;rw [rounds_succ];go_wp2_with fail
   rw [rounds_succ];go_wp2_with fail
   go_ret;exact⟨Qal (by rw [<-H.out];unfold knownI;have:=of_decide_eq_true k2;exact(decide_eq_false (by simp only;omega)).symm),hbA _⟩
  ·rcases out5 c with m1|⟨m1,m2⟩|⟨m1,m2,m3,m4⟩
   ·go_enter func182,ntmps182
    go_wp2_with fail
    refine wp_loop_rounds 4 ?_;rw [rounds_succ];go_wp2_with fail
    rw [rounds_succ];go_wp2_with fail
    rw [rounds_succ];go_wp2_with fail
    go_ret;exact⟨Qal (by rw [<-H.out];unfold knownI;have:=of_decide_eq_true m1;exact(decide_eq_false (by simp only;omega)).symm),hbA _⟩
   ·go_enter func182,ntmps182
    go_wp2_with fail
    refine wp_loop_rounds 4 ?_;rw [rounds_succ];go_wp2_with fail
    rw [rounds_succ];go_wp2_with fail
    rw [rounds_succ];go_wp2_with fail
    go_ret;exact⟨Qal (by rw [<-H.out];unfold knownI;have:=of_decide_eq_true m2;exact(decide_eq_false (by simp only;omega)).symm),hbA _⟩
   ·go_enter func182,ntmps182
    go_wp2_with fail
    refine wp_loop_rounds 4 ?_;rw [rounds_succ];go_wp2_with fail
    rw [rounds_succ];go_wp2_with fail
    rw [rounds_succ];go_wp2_with fail
    rw [rounds_succ];go_wp2_with fail
    go_ret;refine⟨Qal ?_,hbA _⟩;rw [<-H.out];unfold knownI;exact decide_eq_decide.2 (by simp only;omega)
end Go.Proofs.YthbhgelncdnmgaaGreatDoor
